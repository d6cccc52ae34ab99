/-
  QH, QJ. Own work.
-/
import Derived.Test.YtddpcehgopeklaaGreatDoorMXAO
import Derived.Test.YtddpcehgopeklaaGreatDoorMXAE
import Derived.Test.YtddpcehgopeklaaGreatDoorMXAQ
namespace Go.Proofs.YtddpcehgopeklaaGreatDoor
open Go.RowKit
set_option linter.unusedVariables false

/-- trees in a slice -/
structure Trs (w : World) (a : Option Addr) (n c : Nat) (Es : List Ex) : Prop where
  len : Es.length = n
  small : n ≤ 1048576
  cells : ∀ j, (h : j < Es.length) → ∃ b off, a = some ⟨b, off, none⟩ ∧ b < w.heap.size ∧ w.cell? ⟨b, off + j, none⟩ = some Es[j].val

theorem Trs.below {w w' : World} {B : Nat} {a : Option Addr} {n c : Nat} {L : List Ex} (h : Trs w a n c L) (hb : Below B w w') (hB : w.heap.size ≤ B) : Trs w' a n c L :=
  ⟨h.len, h.small, fun j hj => by
    obtain ⟨b, off, ha, hl, c0⟩ := h.cells j hj
    exact ⟨b, off, ha, Nat.lt_of_lt_of_le hl hb.size, (hb.cell (p := ⟨b, off + j, none⟩) (by show b < B; omega)).trans c0⟩⟩

theorem Trs.get {w : World} {a : Option Addr} {n c : Nat} {L : List Ex} (h : Trs w a n c L) {k : Nat} {e : Ex} (hk : L[k]? = some e) : ∃ b off, a = some ⟨b, off, none⟩ ∧ b < w.heap.size ∧ w.cell? ⟨b, off + k, none⟩ = some e.val ∧ k < n := by
  obtain ⟨h1, h2⟩ := List.getElem?_eq_some_iff.1 hk
  obtain ⟨b, off, ha, hl, c0⟩ := h.cells k h1
  exact ⟨b, off, ha, hl, by rw [c0, h2], by rw [← h.len]; exact h1⟩

/-- the tree of a node, made of those ahead of it -/
inductive MkT (Es : List Ex) (i : Nat) (x : Nd) (an : Option Addr) (nn cn : Nat) : Ex → Prop
  | int (ho : x.op = 1) : MkT Es i x an nn cn (.int i x.num)
  | text (ho : x.op = 2) : MkT Es i x an nn cn (.text i x.text)
  | bool (ho : x.op = 3) : MkT Es i x an nn cn (.bool i (decide (x.num = 1)))
  | set (ho : x.op = 4) : MkT Es i x an nn cn (.set i an nn cn x.names)
  | name (ho : x.op = 5) : MkT Es i x an nn cn (.name i x.text)
  | attr (ho : x.op = 6) : MkT Es i x an nn cn (.attr i x.num)
  | lett (ho : x.op = 7) : MkT Es i x an nn cn (.lett i x.num)
  | un {k : Nat} {e : Ex} (ho : 8 ≤ x.op ∧ x.op ≤ 10) (hk : x.kids = [(k : Int)]) (h1 : Es[k]? = some e) : MkT Es i x an nn cn (.un i x.op e)
  | bin {k l : Nat} {e f : Ex} (ho : 11 ≤ x.op ∧ x.op ≤ 26) (hk : x.kids = [(k : Int), (l : Int)]) (h1 : Es[k]? = some e) (h2 : Es[l]? = some f) : MkT Es i x an nn cn (.bin i x.op e f)
  | ite {k l m : Nat} {e f g : Ex} (ho : x.op = 27) (hk : x.kids = [(k : Int), (l : Int), (m : Int)]) (h1 : Es[k]? = some e) (h2 : Es[l]? = some f) (h3 : Es[m]? = some g) : MkT Es i x an nn cn (.ite i e f g)

set_option maxHeartbeats 3200000 in
set_option maxRecDepth 100000 in
theorem treeOf_int (i : Nat) (op num : Int) (text : ByteArray) (an : Option Addr) (nn cn : Nat) (ak : Option Addr) (nk ck : Nat) (a : Option Addr) (m c : Nat) (w : World) (ho : op = 1) :
    Calls Tryz.prog 92 #[.agg #[.int .i64 op, .int .i64 num, .string text, .slice an nn cn, .slice ak nk ck], .int .i64 i, .slice a m c] w fun r w' => r = .returned (.iface 198 (.agg #[.int .i64 i, .int .i64 num])) ∧ Below w.heap.size w w' := by
  subst ho
  have E0 := (Below.refl w.heap.size w).alloc (Nat.le_refl _) (.cells #[.int .i64 1, .int .i64 num, .string text, .slice an nn cn, .slice ak nk ck] 53)
  go_enter Tryz.func92, Tryz.ntmps92
  go_wp2
  go_ret
  exact ⟨rfl, E0⟩

set_option maxHeartbeats 3200000 in
set_option maxRecDepth 100000 in
theorem treeOf_text (i : Nat) (op num : Int) (text : ByteArray) (an : Option Addr) (nn cn : Nat) (ak : Option Addr) (nk ck : Nat) (a : Option Addr) (m c : Nat) (w : World) (ho : op = 2) :
    Calls Tryz.prog 92 #[.agg #[.int .i64 op, .int .i64 num, .string text, .slice an nn cn, .slice ak nk ck], .int .i64 i, .slice a m c] w fun r w' => r = .returned (.iface 200 (.agg #[.int .i64 i, .string text])) ∧ Below w.heap.size w w' := by
  subst ho
  have E0 := (Below.refl w.heap.size w).alloc (Nat.le_refl _) (.cells #[.int .i64 2, .int .i64 num, .string text, .slice an nn cn, .slice ak nk ck] 53)
  go_enter Tryz.func92, Tryz.ntmps92
  go_wp2
  go_ret
  exact ⟨rfl, E0⟩

set_option maxHeartbeats 3200000 in
set_option maxRecDepth 100000 in
theorem treeOf_bool (i : Nat) (op num : Int) (text : ByteArray) (an : Option Addr) (nn cn : Nat) (ak : Option Addr) (nk ck : Nat) (a : Option Addr) (m c : Nat) (w : World) (ho : op = 3) :
    Calls Tryz.prog 92 #[.agg #[.int .i64 op, .int .i64 num, .string text, .slice an nn cn, .slice ak nk ck], .int .i64 i, .slice a m c] w fun r w' => r = .returned (.iface 202 (.agg #[.int .i64 i, .bool (decide (num = 1))])) ∧ Below w.heap.size w w' := by
  subst ho
  have E0 := (Below.refl w.heap.size w).alloc (Nat.le_refl _) (.cells #[.int .i64 3, .int .i64 num, .string text, .slice an nn cn, .slice ak nk ck] 53)
  by_cases hn : num = 1
  · have hb : (num == 1) = true := beq_iff_eq.2 hn
    rw [decide_eq_true hn]
    clear hn
    go_enter Tryz.func92, Tryz.ntmps92
    go_wp2
    go_ret
    exact ⟨rfl, E0⟩
  · have hb : (num == 1) = false := beq_eq_false_iff_ne.2 hn
    rw [decide_eq_false hn]
    clear hn
    go_enter Tryz.func92, Tryz.ntmps92
    go_wp2
    go_ret
    exact ⟨rfl, E0⟩

set_option maxHeartbeats 3200000 in
set_option maxRecDepth 100000 in
theorem treeOf_set (i : Nat) (op num : Int) (text : ByteArray) (an : Option Addr) (nn cn : Nat) (ak : Option Addr) (nk ck : Nat) (a : Option Addr) (m c : Nat) (w : World) (ho : op = 4) :
    Calls Tryz.prog 92 #[.agg #[.int .i64 op, .int .i64 num, .string text, .slice an nn cn, .slice ak nk ck], .int .i64 i, .slice a m c] w fun r w' => r = .returned (.iface 204 (.agg #[.int .i64 i, .slice an nn cn])) ∧ Below w.heap.size w w' := by
  subst ho
  have E0 := (Below.refl w.heap.size w).alloc (Nat.le_refl _) (.cells #[.int .i64 4, .int .i64 num, .string text, .slice an nn cn, .slice ak nk ck] 53)
  go_enter Tryz.func92, Tryz.ntmps92
  go_wp2
  go_ret
  exact ⟨rfl, E0⟩

set_option maxHeartbeats 3200000 in
set_option maxRecDepth 100000 in
theorem treeOf_name (i : Nat) (op num : Int) (text : ByteArray) (an : Option Addr) (nn cn : Nat) (ak : Option Addr) (nk ck : Nat) (a : Option Addr) (m c : Nat) (w : World) (ho : op = 5) :
    Calls Tryz.prog 92 #[.agg #[.int .i64 op, .int .i64 num, .string text, .slice an nn cn, .slice ak nk ck], .int .i64 i, .slice a m c] w fun r w' => r = .returned (.iface 127 (.agg #[.int .i64 i, .string text])) ∧ Below w.heap.size w w' := by
  subst ho
  have E0 := (Below.refl w.heap.size w).alloc (Nat.le_refl _) (.cells #[.int .i64 5, .int .i64 num, .string text, .slice an nn cn, .slice ak nk ck] 53)
  go_enter Tryz.func92, Tryz.ntmps92
  go_wp2
  go_ret
  exact ⟨rfl, E0⟩

set_option maxHeartbeats 3200000 in
set_option maxRecDepth 100000 in
theorem treeOf_attr (i : Nat) (op num : Int) (text : ByteArray) (an : Option Addr) (nn cn : Nat) (ak : Option Addr) (nk ck : Nat) (a : Option Addr) (m c : Nat) (w : World) (ho : op = 6) :
    Calls Tryz.prog 92 #[.agg #[.int .i64 op, .int .i64 num, .string text, .slice an nn cn, .slice ak nk ck], .int .i64 i, .slice a m c] w fun r w' => r = .returned (.iface 131 (.agg #[.int .i64 i, .int .i64 num])) ∧ Below w.heap.size w w' := by
  subst ho
  have E0 := (Below.refl w.heap.size w).alloc (Nat.le_refl _) (.cells #[.int .i64 6, .int .i64 num, .string text, .slice an nn cn, .slice ak nk ck] 53)
  go_enter Tryz.func92, Tryz.ntmps92
  go_wp2
  go_ret
  exact ⟨rfl, E0⟩

set_option maxHeartbeats 3200000 in
set_option maxRecDepth 100000 in
theorem treeOf_lett (i : Nat) (op num : Int) (text : ByteArray) (an : Option Addr) (nn cn : Nat) (ak : Option Addr) (nk ck : Nat) (a : Option Addr) (m c : Nat) (w : World) (ho : op = 7) :
    Calls Tryz.prog 92 #[.agg #[.int .i64 op, .int .i64 num, .string text, .slice an nn cn, .slice ak nk ck], .int .i64 i, .slice a m c] w fun r w' => r = .returned (.iface 130 (.agg #[.int .i64 i, .int .i64 num])) ∧ Below w.heap.size w w' := by
  subst ho
  have E0 := (Below.refl w.heap.size w).alloc (Nat.le_refl _) (.cells #[.int .i64 7, .int .i64 num, .string text, .slice an nn cn, .slice ak nk ck] 53)
  go_enter Tryz.func92, Tryz.ntmps92
  go_wp2
  go_ret
  exact ⟨rfl, E0⟩

set_option maxHeartbeats 3200000 in
set_option maxRecDepth 100000 in
theorem treeOf_un (i : Nat) (k : Nat) (tk : TypeId) (uk : Value) (op num : Int) (text : ByteArray) (an : Option Addr) (nn cn : Nat) (ak : Option Addr) (nk ck : Nat) (a : Option Addr) (m c : Nat) (w : World) (ho : 8 ≤ op ∧ op ≤ 10) (hK : Ints w ak nk ck [(k : Int)]) (b0 o0 : Nat) (ha : a = some ⟨b0, o0, none⟩) (hl : b0 < w.heap.size) (hck : w.cell? ⟨b0, o0 + k, none⟩ = some (.iface tk uk)) (hk : k < m) :
    Calls Tryz.prog 92 #[.agg #[.int .i64 op, .int .i64 num, .string text, .slice an nn cn, .slice ak nk ck], .int .i64 i, .slice a m c] w fun r w' => r = .returned (.iface 168 (.agg #[.int .i64 i, .int .i64 op, .iface tk uk])) ∧ Below w.heap.size w w' := by
  obtain ⟨bk, ok, rfl, lk, ck0⟩ := hK.cells 0 (by simp)
  obtain rfl : nk = 1 := hK.len.symm
  simp only [List.getElem_cons_zero, Nat.add_zero] at ck0
  subst ha
  have ik : (k : Int) < (m : Int) := by omega
  clear hK
  have hop : op = 8 ∨ op = 9 ∨ op = 10 := by omega
  clear ho
  rcases hop with rfl | rfl | rfl
  · have E0 := (Below.refl w.heap.size w).alloc (Nat.le_refl _) (.cells #[.int .i64 8, .int .i64 num, .string text, .slice an nn cn, .slice (some ⟨bk, ok, none⟩) 1 ck] 53)
    go_enter Tryz.func92, Tryz.ntmps92
    go_wp2
    go_region
    all_goals (go_wp2; go_ret; exact ⟨rfl, E0.drew⟩)
  · have E0 := (Below.refl w.heap.size w).alloc (Nat.le_refl _) (.cells #[.int .i64 9, .int .i64 num, .string text, .slice an nn cn, .slice (some ⟨bk, ok, none⟩) 1 ck] 53)
    go_enter Tryz.func92, Tryz.ntmps92
    go_wp2
    go_region
    all_goals (go_wp2; go_ret; exact ⟨rfl, E0.drew⟩)
  · have E0 := (Below.refl w.heap.size w).alloc (Nat.le_refl _) (.cells #[.int .i64 10, .int .i64 num, .string text, .slice an nn cn, .slice (some ⟨bk, ok, none⟩) 1 ck] 53)
    go_enter Tryz.func92, Tryz.ntmps92
    go_wp2
    go_region
    all_goals (go_wp2; go_ret; exact ⟨rfl, E0.drew⟩)

set_option maxHeartbeats 3200000 in
set_option maxRecDepth 100000 in
theorem treeOf_bin (i : Nat) (k : Nat) (tk : TypeId) (uk : Value) (l : Nat) (tl : TypeId) (ul : Value) (op num : Int) (text : ByteArray) (an : Option Addr) (nn cn : Nat) (ak : Option Addr) (nk ck : Nat) (a : Option Addr) (m c : Nat) (w : World) (ho : 11 ≤ op ∧ op ≤ 26) (hK : Ints w ak nk ck [(k : Int), (l : Int)]) (b0 o0 : Nat) (ha : a = some ⟨b0, o0, none⟩) (hl : b0 < w.heap.size) (hck : w.cell? ⟨b0, o0 + k, none⟩ = some (.iface tk uk)) (hk : k < m) (hcl : w.cell? ⟨b0, o0 + l, none⟩ = some (.iface tl ul)) (hl : l < m) :
    Calls Tryz.prog 92 #[.agg #[.int .i64 op, .int .i64 num, .string text, .slice an nn cn, .slice ak nk ck], .int .i64 i, .slice a m c] w fun r w' => r = .returned (.iface 170 (.agg #[.int .i64 i, .int .i64 op, .iface tk uk, .iface tl ul])) ∧ Below w.heap.size w w' := by
  obtain ⟨bk, ok, rfl, lk, ck0⟩ := hK.cells 0 (by simp)
  have ck1 : w.cell? ⟨bk, ok + 1, none⟩ = some (.int .i64 l) := by
    obtain ⟨b2, o2, e2, _, c2⟩ := hK.cells 1 (by simp)
    obtain ⟨rfl, rfl⟩ : bk = b2 ∧ ok = o2 := by simpa using e2
    simpa using c2
  obtain rfl : nk = 2 := hK.len.symm
  simp only [List.getElem_cons_zero, Nat.add_zero] at ck0
  subst ha
  have ik : (k : Int) < (m : Int) := by omega
  have il : (l : Int) < (m : Int) := by omega
  clear hK
  have s1 : (op == 1) = false := beq_eq_false_iff_ne.2 (by omega)
  have s2 : (op == 2) = false := beq_eq_false_iff_ne.2 (by omega)
  have s3 : (op == 3) = false := beq_eq_false_iff_ne.2 (by omega)
  have s4 : (op == 4) = false := beq_eq_false_iff_ne.2 (by omega)
  have s5 : (op == 5) = false := beq_eq_false_iff_ne.2 (by omega)
  have s6 : (op == 6) = false := beq_eq_false_iff_ne.2 (by omega)
  have s7 : (op == 7) = false := beq_eq_false_iff_ne.2 (by omega)
  have s8 : (op == 8) = false := beq_eq_false_iff_ne.2 (by omega)
  have s9 : (op == 9) = false := beq_eq_false_iff_ne.2 (by omega)
  have s10 : (op == 10) = false := beq_eq_false_iff_ne.2 (by omega)
  have s27 : (op == 27) = false := beq_eq_false_iff_ne.2 (by omega)
  clear ho
  have E0 := (Below.refl w.heap.size w).alloc (Nat.le_refl _) (.cells #[.int .i64 op, .int .i64 num, .string text, .slice an nn cn, .slice (some ⟨bk, ok, none⟩) 2 ck] 53)
  go_enter Tryz.func92, Tryz.ntmps92
  go_wp2
  go_region
  all_goals (go_wp2; go_ret; exact ⟨rfl, E0.drew⟩)

set_option maxHeartbeats 3200000 in
set_option maxRecDepth 100000 in
theorem treeOf_ite (i : Nat) (k : Nat) (tk : TypeId) (uk : Value) (l : Nat) (tl : TypeId) (ul : Value) (q : Nat) (tq : TypeId) (uq : Value) (op num : Int) (text : ByteArray) (an : Option Addr) (nn cn : Nat) (ak : Option Addr) (nk ck : Nat) (a : Option Addr) (m c : Nat) (w : World) (ho : op = 27) (hK : Ints w ak nk ck [(k : Int), (l : Int), (q : Int)]) (b0 o0 : Nat) (ha : a = some ⟨b0, o0, none⟩) (hl : b0 < w.heap.size) (hck : w.cell? ⟨b0, o0 + k, none⟩ = some (.iface tk uk)) (hk : k < m) (hcl : w.cell? ⟨b0, o0 + l, none⟩ = some (.iface tl ul)) (hl : l < m) (hcq : w.cell? ⟨b0, o0 + q, none⟩ = some (.iface tq uq)) (hq : q < m) :
    Calls Tryz.prog 92 #[.agg #[.int .i64 op, .int .i64 num, .string text, .slice an nn cn, .slice ak nk ck], .int .i64 i, .slice a m c] w fun r w' => r = .returned (.iface 172 (.agg #[.int .i64 i, .iface tk uk, .iface tl ul, .iface tq uq])) ∧ Below w.heap.size w w' := by
  obtain ⟨bk, ok, rfl, lk, ck0⟩ := hK.cells 0 (by simp)
  have ck1 : w.cell? ⟨bk, ok + 1, none⟩ = some (.int .i64 l) := by
    obtain ⟨b2, o2, e2, _, c2⟩ := hK.cells 1 (by simp)
    obtain ⟨rfl, rfl⟩ : bk = b2 ∧ ok = o2 := by simpa using e2
    simpa using c2
  have ck2 : w.cell? ⟨bk, ok + 2, none⟩ = some (.int .i64 q) := by
    obtain ⟨b2, o2, e2, _, c2⟩ := hK.cells 2 (by simp)
    obtain ⟨rfl, rfl⟩ : bk = b2 ∧ ok = o2 := by simpa using e2
    simpa using c2
  obtain rfl : nk = 3 := hK.len.symm
  simp only [List.getElem_cons_zero, Nat.add_zero] at ck0
  subst ha
  have ik : (k : Int) < (m : Int) := by omega
  have il : (l : Int) < (m : Int) := by omega
  have iq : (q : Int) < (m : Int) := by omega
  clear hK
  subst ho
  have E0 := (Below.refl w.heap.size w).alloc (Nat.le_refl _) (.cells #[.int .i64 27, .int .i64 num, .string text, .slice an nn cn, .slice (some ⟨bk, ok, none⟩) 3 ck] 53)
  go_enter Tryz.func92, Tryz.ntmps92
  go_wp2
  go_region
  all_goals (go_wp2; go_ret; exact ⟨rfl, E0.drew⟩)

theorem treeOf_any {Es : List Ex} {i : Nat} {x : Nd} {an : Option Addr} {nn cn : Nat} {ak : Option Addr} {nk ck : Nat} {a : Option Addr} {m c : Nat} {w : World} {e : Ex} (hm : MkT Es i x an nn cn e) (hK : Ints w ak nk ck x.kids) (hT : Trs w a m c Es) :
    Calls Tryz.prog 92 #[.agg #[.int .i64 x.op, .int .i64 x.num, .string x.text, .slice an nn cn, .slice ak nk ck], .int .i64 i, .slice a m c] w fun r w' => r = .returned e.val ∧ Below w.heap.size w w' := by
  cases hm with
  | int ho => exact treeOf_int i _ _ _ _ _ _ _ _ _ _ _ _ w ho
  | text ho => exact treeOf_text i _ _ _ _ _ _ _ _ _ _ _ _ w ho
  | bool ho => exact treeOf_bool i _ _ _ _ _ _ _ _ _ _ _ _ w ho
  | set ho => exact treeOf_set i _ _ _ _ _ _ _ _ _ _ _ _ w ho
  | name ho => exact treeOf_name i _ _ _ _ _ _ _ _ _ _ _ _ w ho
  | attr ho => exact treeOf_attr i _ _ _ _ _ _ _ _ _ _ _ _ w ho
  | lett ho => exact treeOf_lett i _ _ _ _ _ _ _ _ _ _ _ _ w ho
  | @un k e ho hk h1 =>
    rw [hk] at hK
    obtain ⟨b0, o0, ha, hl, c1, l1⟩ := hT.get h1
    obtain ⟨t1, u1, e1⟩ := e.form
    rw [e1] at c1
    simp only [Ex.val, e1]
    exact treeOf_un i k t1 u1 _ _ _ _ _ _ _ _ _ _ _ _ w ho hK b0 o0 ha hl c1 l1
  | @bin k l e f ho hk h1 h2 =>
    rw [hk] at hK
    obtain ⟨b0, o0, ha, hl, c1, l1⟩ := hT.get h1
    obtain ⟨b1, o1, ha', hl', c2, l2⟩ := hT.get h2
    obtain ⟨rfl, rfl⟩ : b0 = b1 ∧ o0 = o1 := by have := ha.symm.trans ha'; simpa using this
    obtain ⟨t1, u1, e1⟩ := e.form
    obtain ⟨t2, u2, e2⟩ := f.form
    rw [e1] at c1
    rw [e2] at c2
    simp only [Ex.val, e1, e2]
    exact treeOf_bin i k t1 u1 l t2 u2 _ _ _ _ _ _ _ _ _ _ _ _ w ho hK b0 o0 ha hl c1 l1 c2 l2
  | @ite k l q e f g ho hk h1 h2 h3 =>
    rw [hk] at hK
    obtain ⟨b0, o0, ha, hl, c1, l1⟩ := hT.get h1
    obtain ⟨b1, o1, ha', hl', c2, l2⟩ := hT.get h2
    obtain ⟨rfl, rfl⟩ : b0 = b1 ∧ o0 = o1 := by have := ha.symm.trans ha'; simpa using this
    obtain ⟨b1, o1, ha2, hl2, c3, l3⟩ := hT.get h3
    obtain ⟨rfl, rfl⟩ : b0 = b1 ∧ o0 = o1 := by have := ha.symm.trans ha2; simpa using this
    obtain ⟨t1, u1, e1⟩ := e.form
    obtain ⟨t2, u2, e2⟩ := f.form
    obtain ⟨t3, u3, e3⟩ := g.form
    rw [e1] at c1
    rw [e2] at c2
    rw [e3] at c3
    simp only [Ex.val, e1, e2, e3]
    exact treeOf_ite i k t1 u1 l t2 u2 q t3 u3 _ _ _ _ _ _ _ _ _ _ _ _ w ho hK b0 o0 ha hl c1 l1 c2 l2 c3 l3

end Go.Proofs.YtddpcehgopeklaaGreatDoor

namespace Go.Proofs.YtddpcehgopeklaaGreatDoor
open Go.RowKit
set_option linter.unusedVariables false

/-- trees in a row of the call's own -/
structure OwnT (w : World) (lo : Nat) (v : Value) (N : List Nd) (P : Ex → Prop) (Es : List Ex) : Prop where
  own : w.ownsRow lo 88 1 v Es.length (Es.map Ex.val)
  tree : ∀ j, (h : j < Es.length) → IsT N j Es[j]
  fit : ∀ e ∈ Es, P e

theorem OwnT.trs {w : World} {lo : Nat} {v : Value} {N : List Nd} {P : Ex → Prop} {Es : List Ex} (h : OwnT w lo v N P Es) (hs : Es.length ≤ 1048576) : ∃ a c, v = .slice a Es.length c ∧ Trs w a Es.length c Es := by
  obtain ⟨a, c, rfl, ha⟩ := owns_form2 h.own
  refine ⟨a, c, rfl, rfl, hs, fun j hj => ?_⟩
  obtain ⟨g, rfl, hg, hgc⟩ := ha (by omega)
  refine ⟨g, 0, rfl, (h.own.lt g rfl).2, ?_⟩
  have := hgc j Es[j].val (by simp [hj])
  simpa using this

theorem infoEx : (Tryz.prog.info? 88).map (fun i => (i.zero, i.size, i.bytes)) = some (some .nilIface, 1, 16) := by kernel_rfl

/-- each node has its tree, where those ahead have theirs -/
def Makes (w0 : World) (N : List Nd) (P : Ex → Prop) : Prop :=
  ∀ (k : Nat) (x : Nd) (an : Option Addr) (nn cn : Nat) (Es : List Ex), N[k]? = some x → Es.length = k → (∀ j, (h : j < Es.length) → IsT N j Es[j]) → (∀ e ∈ Es, P e) → Strs w0 an nn cn x.names → ∃ e, MkT Es k x an nn cn e ∧ IsT N k e ∧ P e

set_option maxHeartbeats 1600000 in
set_option maxRecDepth 100000 in
theorem treesOf_any (a : Option Addr) (n c : Nat) (N : List Nd) (w0 w : World) (h : Nds w0 a n c N) (hw : Below w0.heap.size w0 w) (P : Ex → Prop) (hM : Makes w0 N P) :
    Calls Tryz.prog 65 #[.slice a n c] w fun r w' => (∃ v Es, r = .returned v ∧ Es.length = n ∧ OwnT w' w.heap.size v N P Es) ∧ Below w.heap.size w w' := by
  have hn := h.small
  have HL := hide h.len
  have HM := hide hM
  clear hM
  obtain ⟨ie, hie, ez0, ez1, ez2⟩ := info_parts infoEx
  go_enter Tryz.func65, Tryz.ntmps65
  go_wp2_with fail
  go_loopw [3, 8] (fun v i wr => ∃ (k : Nat) (Es : List Ex), k ≤ n ∧ i = .int .i64 k ∧ Hid (Es.length = k) ∧ OwnT wr w.heap.size v N P Es ∧ Below w.heap.size w wr) (fun _ i _ => n - (intOf i).toNat)
  case atStart => exact ⟨0, [], by omega, rfl, rfl, ⟨World.ownsRow_nil _ _ _ _, fun j hj => absurd hj (by simp), fun e he => (by cases he)⟩, Below.refl _ _⟩
  case round =>
    obtain ⟨k, Es, hk, rfl, HE, O1, B1⟩ := hrel
    by_cases hlt : k < n
    · have ilt : (k : Int) < (n : Int) := by omega
      have hkl : k < N.length := by rw [unhide HL]; exact hlt
      have W1 := hw.trans (B1.mono hw.size)
      obtain ⟨b, off, rfl, hbl, an, nn, cn, ak, nk, ck, d0, d1, d2, d3, d4, hS', hI0⟩ := h.cells k hkl
      have c0 := (W1.cell (p := ⟨b, off + k * 5, none⟩) hbl).trans d0
      have c1 := (W1.cell (p := ⟨b, off + k * 5 + 1, none⟩) hbl).trans d1
      have c2 := (W1.cell (p := ⟨b, off + k * 5 + 2, none⟩) hbl).trans d2
      have c3 := (W1.cell (p := ⟨b, off + k * 5 + 3, none⟩) hbl).trans d3
      have c4 := (W1.cell (p := ⟨b, off + k * 5 + 4, none⟩) hbl).trans d4
      have hI := hI0.below W1 (Nat.le_refl _)
      have hb : b < wr.heap.size := Nat.lt_of_lt_of_le hbl W1.size
      clear d0 d1 d2 d3 d4 hI0 W1
      have hx : N[k]? = some N[k] := List.getElem?_eq_getElem hkl
      obtain ⟨e, hm, ht, hfit⟩ := unhide HM k _ an nn cn Es hx (unhide HE) O1.tree O1.fit hS'
      have Hlt := hide hlt
      have hEl : Es.length ≤ 1048576 := by rw [unhide HE]; omega
      obtain ⟨av, cv, rfl, T1⟩ := O1.trs hEl
      have HT := hide (fun j (hj : j < (Es ++ [e]).length) => show IsT N j (Es ++ [e])[j] by
        by_cases hj2 : j < Es.length
        · rw [List.getElem_append_left hj2]; exact O1.tree j hj2
        · have : j = Es.length := by simp at hj; omega
          subst this
          simp only [List.getElem_concat_length]
          rw [unhide HE]; exact ht)
      have HX := hide (fun f (hf : f ∈ Es ++ [e]) => show P f by
        rcases List.mem_append.1 hf with hf | hf
        · exact O1.fit f hf
        · simp at hf; subst hf; exact hfit)
      have Q1 := O1.own
      generalize N[k] = x at c0 c1 c2 c3 c4 hI hm
      have R1 := Row.new wr #[.int .i64 x.op, .int .i64 x.num, .string x.text, .slice an nn cn, .slice ak nk ck] 53
      have B2 := B1.alloc B1.size (.cells #[.int .i64 x.op, .int .i64 x.num, .string x.text, .slice an nn cn, .slice ak nk ck] 53)
      have C2 := (Below.refl wr.heap.size wr).alloc (Nat.le_refl _) (.cells #[.int .i64 x.op, .int .i64 x.num, .string x.text, .slice an nn cn, .slice ak nk ck] 53)
      have Q2 := Q1.alloc (.cells #[.int .i64 x.op, .int .i64 x.num, .string x.text, .slice an nn cn, .slice ak nk ck] 53)
      have HC := hide (treeOf_any hm (hI.below C2 (Nat.le_refl _)) (T1.below C2 (Nat.le_refl _)))
      obtain ⟨t, u, hv⟩ := e.form
      rw [hv] at HC
      have HV := hide hv
      have zb := B1.size
      have HE2 := HE
      clear hI hS' hm ht hfit T1 Q1 O1 hx hkl hlt hv hbl HE
      go_wp2_with fail
      have zw : (wr.alloc (.cells #[.int .i64 x.op, .int .i64 x.num, .string x.text, .slice an nn cn, .slice ak nk ck] 53)).heap.size = wr.heap.size + 1 := by simp
      refine (unhide HC).mono ?_
      rintro r w3 ⟨rfl, hb3⟩
      have Q3 : w3.ownsRow w.heap.size 88 1 (.slice av Es.length cv) Es.length (Es.map Ex.val) := owns_blocks2 Q2 (fun q hq => hb3.block q (Q2.lt q hq).2)
      have B3 := B2.trans (hb3.mono B2.size)
      have z3 := B3.size
      dsimp only
      go_wp2_with (at_builtin; refine wpList_append_own _ rfl _ _ 116 rfl w.heap.size 88 ie .nilIface 1 16 Tryz.underlying116 hie ez0 ez1 ez2 rfl (by decide) _ _ _ rfl (World.ownsRow.alloc Q3 _) ⟨w3.heap.size, 0, none⟩ 1 1 [.iface t u] rfl rfl ?d1 ?d2 ?d3 ?d4 ?d5 ?_)
      case d1 => exact one_cell _ _ _ _ (by simp)
      case d2 => intro u hu; simp at hu; subst hu; rfl
      case d3 => unfold maxLen; omega
      case d4 => omega
      case d5 => simp; omega
      intro v' w4 Q4 hgrow _
      have B4 := (B3.alloc B3.size (.cells #[.iface t u] 88)).grown hgrow (by simp; omega) (fun q hq => (Q3.lt q hq).1)
      clear hgrow
      go_wp2_with fail
      go_roundw
      case rel => exact ⟨k + 1, Es ++ [e], unhide Hlt, by go_num, hide (by simp [unhide HE2]), ⟨by rw [List.map_append, List.length_append]; simp only [List.map_cons, List.map_nil, unhide HV]; exact Q4, unhide HT, unhide HX⟩, B4⟩
      case measure => have := unhide Hlt; simp [intOf]; omega
    · have e : k = n := by omega
      subst e
      go_wp2_with fail
      go_ret
      exact ⟨⟨_, Es, rfl, unhide HE, O1⟩, B1⟩

end Go.Proofs.YtddpcehgopeklaaGreatDoor

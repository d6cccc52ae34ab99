/-
  The tree of a node. Own work.
-/
import Derived.Test.YtpbopjgmiaoomaaGreatDoorMXAI
namespace Go.Proofs.YtpbopjgmiaoomaaGreatDoor
open Go.RowKit
set_option linter.unusedVariables false

/-- trees in a slice -/
structure Trs (w : World) (a : Option Addr) (n c : Nat) (Es : List Ex) : Prop where
  len : Es.length = n
  small : n ≤ 1048576
  cells : ∀ j, (h : j < Es.length) → ∃ b off, a = some ⟨b, off, none⟩ ∧ b < w.heap.size ∧ w.cell? ⟨b, off + j, none⟩ = some Es[j].val

theorem Trs.below {w w' : World} {B : Nat} {a : Option Addr} {n c : Nat} {L : List Ex} (h : Trs w a n c L) (hb : Below B w w') (hB : w.heap.size ≤ B) : Trs w' a n c L :=
  ⟨h.len, h.small, fun j hj => by
    obtain ⟨b, off, ha, hl, c0⟩ := h.cells j hj
    exact ⟨b, off, ha, Nat.lt_of_lt_of_le hl hb.size, (hb.cell (p := ⟨b, off + j, none⟩) (by show b < B; omega)).trans c0⟩⟩

theorem Trs.get {w : World} {a : Option Addr} {n c : Nat} {L : List Ex} (h : Trs w a n c L) {k : Nat} {e : Ex} (hk : L[k]? = some e) : ∃ b off, a = some ⟨b, off, none⟩ ∧ b < w.heap.size ∧ w.cell? ⟨b, off + k, none⟩ = some e.val ∧ k < n := by
  obtain ⟨h1, h2⟩ := List.getElem?_eq_some_iff.1 hk
  obtain ⟨b, off, ha, hl, c0⟩ := h.cells k h1
  exact ⟨b, off, ha, hl, by rw [c0, h2], by rw [← h.len]; exact h1⟩

/-- the tree of a node, made of those ahead of it -/
inductive MkT (Es : List Ex) (i : Nat) (x : Nd) (an : Option Addr) (nn cn : Nat) : Ex → Prop
  | int (ho : x.op = 1) : MkT Es i x an nn cn (.int i x.num)
  | text (ho : x.op = 2) : MkT Es i x an nn cn (.text i x.text)
  | bool (ho : x.op = 3) : MkT Es i x an nn cn (.bool i (decide (x.num = 1)))
  | set (ho : x.op = 4) : MkT Es i x an nn cn (.set i an nn cn x.names)
  | name (ho : x.op = 5) : MkT Es i x an nn cn (.name i x.text)
  | attr (ho : x.op = 6) : MkT Es i x an nn cn (.attr i x.num)
  | lett (ho : x.op = 7) : MkT Es i x an nn cn (.lett i x.num)
  | un {k : Nat} {e : Ex} (ho : 8 ≤ x.op ∧ x.op ≤ 10) (hk : x.kids = [(k : Int)]) (h1 : Es[k]? = some e) : MkT Es i x an nn cn (.un i x.op e)
  | bin {k l : Nat} {e f : Ex} (ho : 11 ≤ x.op ∧ x.op ≤ 26) (hk : x.kids = [(k : Int), (l : Int)]) (h1 : Es[k]? = some e) (h2 : Es[l]? = some f) : MkT Es i x an nn cn (.bin i x.op e f)
  | ite {k l m : Nat} {e f g : Ex} (ho : x.op = 27) (hk : x.kids = [(k : Int), (l : Int), (m : Int)]) (h1 : Es[k]? = some e) (h2 : Es[l]? = some f) (h3 : Es[m]? = some g) : MkT Es i x an nn cn (.ite i e f g)

set_option maxHeartbeats 3200000 in
set_option maxRecDepth 100000 in
theorem treeOf_int (i : Nat) (op num : Int) (text : ByteArray) (an : Option Addr) (nn cn : Nat) (ak : Option Addr) (nk ck : Nat) (a : Option Addr) (m c : Nat) (w : World) (ho : op = 1) :
    Calls Tryz.prog 84 #[.agg #[.int .i64 op, .int .i64 num, .string text, .slice an nn cn, .slice ak nk ck], .int .i64 i, .slice a m c] w fun r w' => r = .returned (.iface 181 (.agg #[.int .i64 i, .int .i64 num])) ∧ Below w.heap.size w w' := by
  subst ho
  have E0 := (Below.refl w.heap.size w).alloc (Nat.le_refl _) (.cells #[.int .i64 1, .int .i64 num, .string text, .slice an nn cn, .slice ak nk ck] 103)
  go_enter Tryz.func84, Tryz.ntmps84
  go_wp2
  go_ret
  exact ⟨rfl, E0⟩

set_option maxHeartbeats 3200000 in
set_option maxRecDepth 100000 in
theorem treeOf_text (i : Nat) (op num : Int) (text : ByteArray) (an : Option Addr) (nn cn : Nat) (ak : Option Addr) (nk ck : Nat) (a : Option Addr) (m c : Nat) (w : World) (ho : op = 2) :
    Calls Tryz.prog 84 #[.agg #[.int .i64 op, .int .i64 num, .string text, .slice an nn cn, .slice ak nk ck], .int .i64 i, .slice a m c] w fun r w' => r = .returned (.iface 183 (.agg #[.int .i64 i, .string text])) ∧ Below w.heap.size w w' := by
  subst ho
  have E0 := (Below.refl w.heap.size w).alloc (Nat.le_refl _) (.cells #[.int .i64 2, .int .i64 num, .string text, .slice an nn cn, .slice ak nk ck] 103)
  go_enter Tryz.func84, Tryz.ntmps84
  go_wp2
  go_ret
  exact ⟨rfl, E0⟩

set_option maxHeartbeats 3200000 in
set_option maxRecDepth 100000 in
theorem treeOf_bool (i : Nat) (op num : Int) (text : ByteArray) (an : Option Addr) (nn cn : Nat) (ak : Option Addr) (nk ck : Nat) (a : Option Addr) (m c : Nat) (w : World) (ho : op = 3) :
    Calls Tryz.prog 84 #[.agg #[.int .i64 op, .int .i64 num, .string text, .slice an nn cn, .slice ak nk ck], .int .i64 i, .slice a m c] w fun r w' => r = .returned (.iface 185 (.agg #[.int .i64 i, .bool (decide (num = 1))])) ∧ Below w.heap.size w w' := by
  subst ho
  have E0 := (Below.refl w.heap.size w).alloc (Nat.le_refl _) (.cells #[.int .i64 3, .int .i64 num, .string text, .slice an nn cn, .slice ak nk ck] 103)
  by_cases hn : num = 1
  · have hb : (num == 1) = true := beq_iff_eq.2 hn
    rw [decide_eq_true hn]
    clear hn
    go_enter Tryz.func84, Tryz.ntmps84
    go_wp2
    go_ret
    exact ⟨rfl, E0⟩
  · have hb : (num == 1) = false := beq_eq_false_iff_ne.2 hn
    rw [decide_eq_false hn]
    clear hn
    go_enter Tryz.func84, Tryz.ntmps84
    go_wp2
    go_ret
    exact ⟨rfl, E0⟩

set_option maxHeartbeats 3200000 in
set_option maxRecDepth 100000 in
theorem treeOf_set (i : Nat) (op num : Int) (text : ByteArray) (an : Option Addr) (nn cn : Nat) (ak : Option Addr) (nk ck : Nat) (a : Option Addr) (m c : Nat) (w : World) (ho : op = 4) :
    Calls Tryz.prog 84 #[.agg #[.int .i64 op, .int .i64 num, .string text, .slice an nn cn, .slice ak nk ck], .int .i64 i, .slice a m c] w fun r w' => r = .returned (.iface 187 (.agg #[.int .i64 i, .slice an nn cn])) ∧ Below w.heap.size w w' := by
  subst ho
  have E0 := (Below.refl w.heap.size w).alloc (Nat.le_refl _) (.cells #[.int .i64 4, .int .i64 num, .string text, .slice an nn cn, .slice ak nk ck] 103)
  go_enter Tryz.func84, Tryz.ntmps84
  go_wp2
  go_ret
  exact ⟨rfl, E0⟩

set_option maxHeartbeats 3200000 in
set_option maxRecDepth 100000 in
theorem treeOf_name (i : Nat) (op num : Int) (text : ByteArray) (an : Option Addr) (nn cn : Nat) (ak : Option Addr) (nk ck : Nat) (a : Option Addr) (m c : Nat) (w : World) (ho : op = 5) :
    Calls Tryz.prog 84 #[.agg #[.int .i64 op, .int .i64 num, .string text, .slice an nn cn, .slice ak nk ck], .int .i64 i, .slice a m c] w fun r w' => r = .returned (.iface 189 (.agg #[.int .i64 i, .string text])) ∧ Below w.heap.size w w' := by
  subst ho
  have E0 := (Below.refl w.heap.size w).alloc (Nat.le_refl _) (.cells #[.int .i64 5, .int .i64 num, .string text, .slice an nn cn, .slice ak nk ck] 103)
  go_enter Tryz.func84, Tryz.ntmps84
  go_wp2
  go_ret
  exact ⟨rfl, E0⟩

set_option maxHeartbeats 3200000 in
set_option maxRecDepth 100000 in
theorem treeOf_attr (i : Nat) (op num : Int) (text : ByteArray) (an : Option Addr) (nn cn : Nat) (ak : Option Addr) (nk ck : Nat) (a : Option Addr) (m c : Nat) (w : World) (ho : op = 6) :
    Calls Tryz.prog 84 #[.agg #[.int .i64 op, .int .i64 num, .string text, .slice an nn cn, .slice ak nk ck], .int .i64 i, .slice a m c] w fun r w' => r = .returned (.iface 153 (.agg #[.int .i64 i, .int .i64 num])) ∧ Below w.heap.size w w' := by
  subst ho
  have E0 := (Below.refl w.heap.size w).alloc (Nat.le_refl _) (.cells #[.int .i64 6, .int .i64 num, .string text, .slice an nn cn, .slice ak nk ck] 103)
  go_enter Tryz.func84, Tryz.ntmps84
  go_wp2
  go_ret
  exact ⟨rfl, E0⟩

set_option maxHeartbeats 3200000 in
set_option maxRecDepth 100000 in
theorem treeOf_lett (i : Nat) (op num : Int) (text : ByteArray) (an : Option Addr) (nn cn : Nat) (ak : Option Addr) (nk ck : Nat) (a : Option Addr) (m c : Nat) (w : World) (ho : op = 7) :
    Calls Tryz.prog 84 #[.agg #[.int .i64 op, .int .i64 num, .string text, .slice an nn cn, .slice ak nk ck], .int .i64 i, .slice a m c] w fun r w' => r = .returned (.iface 154 (.agg #[.int .i64 i, .int .i64 num])) ∧ Below w.heap.size w w' := by
  subst ho
  have E0 := (Below.refl w.heap.size w).alloc (Nat.le_refl _) (.cells #[.int .i64 7, .int .i64 num, .string text, .slice an nn cn, .slice ak nk ck] 103)
  go_enter Tryz.func84, Tryz.ntmps84
  go_wp2
  go_ret
  exact ⟨rfl, E0⟩

set_option maxHeartbeats 3200000 in
set_option maxRecDepth 100000 in
theorem treeOf_un (i : Nat) (k : Nat) (tk : TypeId) (uk : Value) (op num : Int) (text : ByteArray) (an : Option Addr) (nn cn : Nat) (ak : Option Addr) (nk ck : Nat) (a : Option Addr) (m c : Nat) (w : World) (ho : 8 ≤ op ∧ op ≤ 10) (hK : Ints w ak nk ck [(k : Int)]) (b0 o0 : Nat) (ha : a = some ⟨b0, o0, none⟩) (hl : b0 < w.heap.size) (hck : w.cell? ⟨b0, o0 + k, none⟩ = some (.iface tk uk)) (hk : k < m) :
    Calls Tryz.prog 84 #[.agg #[.int .i64 op, .int .i64 num, .string text, .slice an nn cn, .slice ak nk ck], .int .i64 i, .slice a m c] w fun r w' => r = .returned (.iface 156 (.agg #[.int .i64 i, .int .i64 op, .iface tk uk])) ∧ Below w.heap.size w w' := by
  obtain ⟨bk, ok, rfl, lk, ck0⟩ := hK.cells 0 (by simp)
  obtain rfl : nk = 1 := hK.len.symm
  simp only [List.getElem_cons_zero, Nat.add_zero] at ck0
  subst ha
  have ik : (k : Int) < (m : Int) := by omega
  clear hK
  have hop : op = 8 ∨ op = 9 ∨ op = 10 := by omega
  clear ho
  rcases hop with rfl | rfl | rfl
  · have E0 := (Below.refl w.heap.size w).alloc (Nat.le_refl _) (.cells #[.int .i64 8, .int .i64 num, .string text, .slice an nn cn, .slice (some ⟨bk, ok, none⟩) 1 ck] 103)
    go_enter Tryz.func84, Tryz.ntmps84
    go_wp2
    go_region
    all_goals (go_wp2; go_ret; exact ⟨rfl, E0.drew⟩)
  · have E0 := (Below.refl w.heap.size w).alloc (Nat.le_refl _) (.cells #[.int .i64 9, .int .i64 num, .string text, .slice an nn cn, .slice (some ⟨bk, ok, none⟩) 1 ck] 103)
    go_enter Tryz.func84, Tryz.ntmps84
    go_wp2
    go_region
    all_goals (go_wp2; go_ret; exact ⟨rfl, E0.drew⟩)
  · have E0 := (Below.refl w.heap.size w).alloc (Nat.le_refl _) (.cells #[.int .i64 10, .int .i64 num, .string text, .slice an nn cn, .slice (some ⟨bk, ok, none⟩) 1 ck] 103)
    go_enter Tryz.func84, Tryz.ntmps84
    go_wp2
    go_region
    all_goals (go_wp2; go_ret; exact ⟨rfl, E0.drew⟩)

set_option maxHeartbeats 3200000 in
set_option maxRecDepth 100000 in
theorem treeOf_bin (i : Nat) (k : Nat) (tk : TypeId) (uk : Value) (l : Nat) (tl : TypeId) (ul : Value) (op num : Int) (text : ByteArray) (an : Option Addr) (nn cn : Nat) (ak : Option Addr) (nk ck : Nat) (a : Option Addr) (m c : Nat) (w : World) (ho : 11 ≤ op ∧ op ≤ 26) (hK : Ints w ak nk ck [(k : Int), (l : Int)]) (b0 o0 : Nat) (ha : a = some ⟨b0, o0, none⟩) (hl : b0 < w.heap.size) (hck : w.cell? ⟨b0, o0 + k, none⟩ = some (.iface tk uk)) (hk : k < m) (hcl : w.cell? ⟨b0, o0 + l, none⟩ = some (.iface tl ul)) (hl : l < m) :
    Calls Tryz.prog 84 #[.agg #[.int .i64 op, .int .i64 num, .string text, .slice an nn cn, .slice ak nk ck], .int .i64 i, .slice a m c] w fun r w' => r = .returned (.iface 158 (.agg #[.int .i64 i, .int .i64 op, .iface tk uk, .iface tl ul])) ∧ Below w.heap.size w w' := by
  obtain ⟨bk, ok, rfl, lk, ck0⟩ := hK.cells 0 (by simp)
  have ck1 : w.cell? ⟨bk, ok + 1, none⟩ = some (.int .i64 l) := by
    obtain ⟨b2, o2, e2, _, c2⟩ := hK.cells 1 (by simp)
    obtain ⟨rfl, rfl⟩ : bk = b2 ∧ ok = o2 := by simpa using e2
    simpa using c2
  obtain rfl : nk = 2 := hK.len.symm
  simp only [List.getElem_cons_zero, Nat.add_zero] at ck0
  subst ha
  have ik : (k : Int) < (m : Int) := by omega
  have il : (l : Int) < (m : Int) := by omega
  clear hK
  have s1 : (op == 1) = false := beq_eq_false_iff_ne.2 (by omega)
  have s2 : (op == 2) = false := beq_eq_false_iff_ne.2 (by omega)
  have s3 : (op == 3) = false := beq_eq_false_iff_ne.2 (by omega)
  have s4 : (op == 4) = false := beq_eq_false_iff_ne.2 (by omega)
  have s5 : (op == 5) = false := beq_eq_false_iff_ne.2 (by omega)
  have s6 : (op == 6) = false := beq_eq_false_iff_ne.2 (by omega)
  have s7 : (op == 7) = false := beq_eq_false_iff_ne.2 (by omega)
  have s8 : (op == 8) = false := beq_eq_false_iff_ne.2 (by omega)
  have s9 : (op == 9) = false := beq_eq_false_iff_ne.2 (by omega)
  have s10 : (op == 10) = false := beq_eq_false_iff_ne.2 (by omega)
  have s27 : (op == 27) = false := beq_eq_false_iff_ne.2 (by omega)
  clear ho
  have E0 := (Below.refl w.heap.size w).alloc (Nat.le_refl _) (.cells #[.int .i64 op, .int .i64 num, .string text, .slice an nn cn, .slice (some ⟨bk, ok, none⟩) 2 ck] 103)
  go_enter Tryz.func84, Tryz.ntmps84
  go_wp2
  go_region
  all_goals (go_wp2; go_ret; exact ⟨rfl, E0.drew⟩)

set_option maxHeartbeats 3200000 in
set_option maxRecDepth 100000 in
theorem treeOf_ite (i : Nat) (k : Nat) (tk : TypeId) (uk : Value) (l : Nat) (tl : TypeId) (ul : Value) (q : Nat) (tq : TypeId) (uq : Value) (op num : Int) (text : ByteArray) (an : Option Addr) (nn cn : Nat) (ak : Option Addr) (nk ck : Nat) (a : Option Addr) (m c : Nat) (w : World) (ho : op = 27) (hK : Ints w ak nk ck [(k : Int), (l : Int), (q : Int)]) (b0 o0 : Nat) (ha : a = some ⟨b0, o0, none⟩) (hl : b0 < w.heap.size) (hck : w.cell? ⟨b0, o0 + k, none⟩ = some (.iface tk uk)) (hk : k < m) (hcl : w.cell? ⟨b0, o0 + l, none⟩ = some (.iface tl ul)) (hl : l < m) (hcq : w.cell? ⟨b0, o0 + q, none⟩ = some (.iface tq uq)) (hq : q < m) :
    Calls Tryz.prog 84 #[.agg #[.int .i64 op, .int .i64 num, .string text, .slice an nn cn, .slice ak nk ck], .int .i64 i, .slice a m c] w fun r w' => r = .returned (.iface 161 (.agg #[.int .i64 i, .iface tk uk, .iface tl ul, .iface tq uq])) ∧ Below w.heap.size w w' := by
  obtain ⟨bk, ok, rfl, lk, ck0⟩ := hK.cells 0 (by simp)
  have ck1 : w.cell? ⟨bk, ok + 1, none⟩ = some (.int .i64 l) := by
    obtain ⟨b2, o2, e2, _, c2⟩ := hK.cells 1 (by simp)
    obtain ⟨rfl, rfl⟩ : bk = b2 ∧ ok = o2 := by simpa using e2
    simpa using c2
  have ck2 : w.cell? ⟨bk, ok + 2, none⟩ = some (.int .i64 q) := by
    obtain ⟨b2, o2, e2, _, c2⟩ := hK.cells 2 (by simp)
    obtain ⟨rfl, rfl⟩ : bk = b2 ∧ ok = o2 := by simpa using e2
    simpa using c2
  obtain rfl : nk = 3 := hK.len.symm
  simp only [List.getElem_cons_zero, Nat.add_zero] at ck0
  subst ha
  have ik : (k : Int) < (m : Int) := by omega
  have il : (l : Int) < (m : Int) := by omega
  have iq : (q : Int) < (m : Int) := by omega
  clear hK
  subst ho
  have E0 := (Below.refl w.heap.size w).alloc (Nat.le_refl _) (.cells #[.int .i64 27, .int .i64 num, .string text, .slice an nn cn, .slice (some ⟨bk, ok, none⟩) 3 ck] 103)
  go_enter Tryz.func84, Tryz.ntmps84
  go_wp2
  go_region
  all_goals (go_wp2; go_ret; exact ⟨rfl, E0.drew⟩)

theorem treeOf_any {Es : List Ex} {i : Nat} {x : Nd} {an : Option Addr} {nn cn : Nat} {ak : Option Addr} {nk ck : Nat} {a : Option Addr} {m c : Nat} {w : World} {e : Ex} (hm : MkT Es i x an nn cn e) (hK : Ints w ak nk ck x.kids) (hT : Trs w a m c Es) :
    Calls Tryz.prog 84 #[.agg #[.int .i64 x.op, .int .i64 x.num, .string x.text, .slice an nn cn, .slice ak nk ck], .int .i64 i, .slice a m c] w fun r w' => r = .returned e.val ∧ Below w.heap.size w w' := by
  cases hm with
  | int ho => exact treeOf_int i _ _ _ _ _ _ _ _ _ _ _ _ w ho
  | text ho => exact treeOf_text i _ _ _ _ _ _ _ _ _ _ _ _ w ho
  | bool ho => exact treeOf_bool i _ _ _ _ _ _ _ _ _ _ _ _ w ho
  | set ho => exact treeOf_set i _ _ _ _ _ _ _ _ _ _ _ _ w ho
  | name ho => exact treeOf_name i _ _ _ _ _ _ _ _ _ _ _ _ w ho
  | attr ho => exact treeOf_attr i _ _ _ _ _ _ _ _ _ _ _ _ w ho
  | lett ho => exact treeOf_lett i _ _ _ _ _ _ _ _ _ _ _ _ w ho
  | @un k e ho hk h1 =>
    rw [hk] at hK
    obtain ⟨b0, o0, ha, hl, c1, l1⟩ := hT.get h1
    obtain ⟨t1, u1, e1⟩ := e.form
    rw [e1] at c1
    simp only [Ex.val, e1]
    exact treeOf_un i k t1 u1 _ _ _ _ _ _ _ _ _ _ _ _ w ho hK b0 o0 ha hl c1 l1
  | @bin k l e f ho hk h1 h2 =>
    rw [hk] at hK
    obtain ⟨b0, o0, ha, hl, c1, l1⟩ := hT.get h1
    obtain ⟨b1, o1, ha', hl', c2, l2⟩ := hT.get h2
    obtain ⟨rfl, rfl⟩ : b0 = b1 ∧ o0 = o1 := by have := ha.symm.trans ha'; simpa using this
    obtain ⟨t1, u1, e1⟩ := e.form
    obtain ⟨t2, u2, e2⟩ := f.form
    rw [e1] at c1
    rw [e2] at c2
    simp only [Ex.val, e1, e2]
    exact treeOf_bin i k t1 u1 l t2 u2 _ _ _ _ _ _ _ _ _ _ _ _ w ho hK b0 o0 ha hl c1 l1 c2 l2
  | @ite k l q e f g ho hk h1 h2 h3 =>
    rw [hk] at hK
    obtain ⟨b0, o0, ha, hl, c1, l1⟩ := hT.get h1
    obtain ⟨b1, o1, ha', hl', c2, l2⟩ := hT.get h2
    obtain ⟨rfl, rfl⟩ : b0 = b1 ∧ o0 = o1 := by have := ha.symm.trans ha'; simpa using this
    obtain ⟨b1, o1, ha2, hl2, c3, l3⟩ := hT.get h3
    obtain ⟨rfl, rfl⟩ : b0 = b1 ∧ o0 = o1 := by have := ha.symm.trans ha2; simpa using this
    obtain ⟨t1, u1, e1⟩ := e.form
    obtain ⟨t2, u2, e2⟩ := f.form
    obtain ⟨t3, u3, e3⟩ := g.form
    rw [e1] at c1
    rw [e2] at c2
    rw [e3] at c3
    simp only [Ex.val, e1, e2, e3]
    exact treeOf_ite i k t1 u1 l t2 u2 q t3 u3 _ _ _ _ _ _ _ _ _ _ _ _ w ho hK b0 o0 ha hl c1 l1 c2 l2 c3 l3

end Go.Proofs.YtpbopjgmiaoomaaGreatDoor

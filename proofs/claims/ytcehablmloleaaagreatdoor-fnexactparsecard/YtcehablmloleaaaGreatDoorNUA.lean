/-
  The program's nodes of trees. Own work.
-/
import Derived.Test.YtcehablmloleaaaGreatDoorMXAE
import Derived.Test.YtcehablmloleaaaGreatDoorJU
import Derived.Test.YtcehablmloleaaaGreatDoorMXAH
namespace Go.Proofs.YtcehablmloleaaaGreatDoor
open Go.RowKit
set_option linter.unusedVariables false

/-- a tree's node, without its kids -/
def exN : Ex → Nd
  | .int _ n => ⟨1, n, ⟨#[]⟩, [], []⟩
  | .text _ s => ⟨2, 0, s, [], []⟩
  | .bool _ b => ⟨3, if b then 1 else 0, ⟨#[]⟩, [], []⟩
  | .set _ _ _ _ ss => ⟨4, 0, ⟨#[]⟩, ss, []⟩
  | .name _ s => ⟨5, 0, s, [], []⟩
  | .attr _ n => ⟨6, n, ⟨#[]⟩, [], []⟩
  | .lett _ n => ⟨7, n, ⟨#[]⟩, [], []⟩
  | .un _ op _ => ⟨op, 0, ⟨#[]⟩, [], []⟩
  | .bin _ op _ _ => ⟨op, 0, ⟨#[]⟩, [], []⟩
  | .ite .. => ⟨27, 0, ⟨#[]⟩, [], []⟩

/-- a node of the call's own -/
def NdA (x : Nd) (w : World) (r : Ending) (w' : World) : Prop := (∃ u cu, r = .returned (.agg #[.int .i64 x.op, .int .i64 x.num, .string x.text, .slice u x.names.length cu, .slice none 0 0]) ∧ w'.ownsRow w.heap.size 9 1 (.slice u x.names.length cu) x.names.length (x.names.map Value.string)) ∧ Below w.heap.size w w'

theorem row5N {w : World} {b : Nat} {v0 v1 v2 v3 v4 : Value} {t : TypeId} (R : Row w b #[v0, v1, v2, v3, v4] t) : w.cell? ⟨b, 0, none⟩ = some v0 ∧ w.cell? ⟨b, 1, none⟩ = some v1 ∧ w.cell? ⟨b, 2, none⟩ = some v2 ∧ w.cell? ⟨b, 3, none⟩ = some v3 ∧ w.cell? ⟨b, 4, none⟩ = some v4 := ⟨R.cell 0, R.cell 1, R.cell 2, R.cell 3, R.cell 4⟩

set_option maxRecDepth 100000 in
set_option maxHeartbeats 1600000 in
theorem node_int (i n : Int) (w : World) : Calls Tryz.prog 84 #[.iface 164 (.agg #[.int .i64 i, .int .i64 n])] w (NdA (exN (.int i n)) w) := by
  have hh := ta_hit (T := 164) Tryz.underlying164 109
  go_enter Tryz.func84, Tryz.ntmps84
  go_wp2_with fail
  refine bodyPost_ret (v := .agg #[.int .i64 1, .int .i64 n, .string ⟨#[]⟩, .slice none 0 0, .slice none 0 0]) (by simp [results, Tryz.results84, go_sem]) rfl ⟨⟨none, 0, rfl, World.ownsRow_nil _ _ _ _⟩, ?_⟩
  exact ((Below.refl w.heap.size w).alloc (Nat.le_refl _) _).alloc (by simp) _

set_option maxRecDepth 100000 in
set_option maxHeartbeats 1600000 in
theorem node_text (i : Int) (s : ByteArray) (w : World) : Calls Tryz.prog 84 #[.iface 166 (.agg #[.int .i64 i, .string s])] w (NdA (exN (.text i s)) w) := by
  have a0 := ta_miss (S := 166) (T := 164) Tryz.underlying164 Tryz.zeroValue164 (by decide) 109
  have hh := ta_hit (T := 166) Tryz.underlying166 109
  go_enter Tryz.func84, Tryz.ntmps84
  go_wp2_with fail
  refine bodyPost_ret (v := .agg #[.int .i64 2, .int .i64 0, .string s, .slice none 0 0, .slice none 0 0]) (by simp [results, Tryz.results84, go_sem]) rfl ⟨⟨none, 0, rfl, World.ownsRow_nil _ _ _ _⟩, ?_⟩
  exact ((Below.refl w.heap.size w).alloc (Nat.le_refl _) _).alloc (by simp) _

set_option maxRecDepth 100000 in
set_option maxHeartbeats 1600000 in
theorem node_name (i : Int) (s : ByteArray) (w : World) : Calls Tryz.prog 84 #[.iface 172 (.agg #[.int .i64 i, .string s])] w (NdA (exN (.name i s)) w) := by
  have a0 := ta_miss (S := 172) (T := 164) Tryz.underlying164 Tryz.zeroValue164 (by decide) 109
  have a1 := ta_miss (S := 172) (T := 166) Tryz.underlying166 Tryz.zeroValue166 (by decide) 109
  have a2 := ta_miss (S := 172) (T := 168) Tryz.underlying168 Tryz.zeroValue168 (by decide) 109
  have a3 := ta_miss (S := 172) (T := 170) Tryz.underlying170 Tryz.zeroValue170 (by decide) 109
  have hh := ta_hit (T := 172) Tryz.underlying172 109
  go_enter Tryz.func84, Tryz.ntmps84
  go_wp2_with fail
  refine bodyPost_ret (v := .agg #[.int .i64 5, .int .i64 0, .string s, .slice none 0 0, .slice none 0 0]) (by simp [results, Tryz.results84, go_sem]) rfl ⟨⟨none, 0, rfl, World.ownsRow_nil _ _ _ _⟩, ?_⟩
  exact ((Below.refl w.heap.size w).alloc (Nat.le_refl _) _).alloc (by simp) _

set_option maxRecDepth 100000 in
set_option maxHeartbeats 1600000 in
theorem node_attr (i n : Int) (w : World) : Calls Tryz.prog 84 #[.iface 173 (.agg #[.int .i64 i, .int .i64 n])] w (NdA (exN (.attr i n)) w) := by
  have a0 := ta_miss (S := 173) (T := 164) Tryz.underlying164 Tryz.zeroValue164 (by decide) 109
  have a1 := ta_miss (S := 173) (T := 166) Tryz.underlying166 Tryz.zeroValue166 (by decide) 109
  have a2 := ta_miss (S := 173) (T := 168) Tryz.underlying168 Tryz.zeroValue168 (by decide) 109
  have a3 := ta_miss (S := 173) (T := 170) Tryz.underlying170 Tryz.zeroValue170 (by decide) 109
  have a4 := ta_miss (S := 173) (T := 172) Tryz.underlying172 Tryz.zeroValue172 (by decide) 109
  have hh := ta_hit (T := 173) Tryz.underlying173 109
  go_enter Tryz.func84, Tryz.ntmps84
  go_wp2_with fail
  refine bodyPost_ret (v := .agg #[.int .i64 6, .int .i64 n, .string ⟨#[]⟩, .slice none 0 0, .slice none 0 0]) (by simp [results, Tryz.results84, go_sem]) rfl ⟨⟨none, 0, rfl, World.ownsRow_nil _ _ _ _⟩, ?_⟩
  exact ((Below.refl w.heap.size w).alloc (Nat.le_refl _) _).alloc (by simp) _

set_option maxRecDepth 100000 in
set_option maxHeartbeats 1600000 in
theorem node_lett (i n : Int) (w : World) : Calls Tryz.prog 84 #[.iface 174 (.agg #[.int .i64 i, .int .i64 n])] w (NdA (exN (.lett i n)) w) := by
  have a0 := ta_miss (S := 174) (T := 164) Tryz.underlying164 Tryz.zeroValue164 (by decide) 109
  have a1 := ta_miss (S := 174) (T := 166) Tryz.underlying166 Tryz.zeroValue166 (by decide) 109
  have a2 := ta_miss (S := 174) (T := 168) Tryz.underlying168 Tryz.zeroValue168 (by decide) 109
  have a3 := ta_miss (S := 174) (T := 170) Tryz.underlying170 Tryz.zeroValue170 (by decide) 109
  have a4 := ta_miss (S := 174) (T := 172) Tryz.underlying172 Tryz.zeroValue172 (by decide) 109
  have a5 := ta_miss (S := 174) (T := 173) Tryz.underlying173 Tryz.zeroValue173 (by decide) 109
  have hh := ta_hit (T := 174) Tryz.underlying174 109
  go_enter Tryz.func84, Tryz.ntmps84
  go_wp2_with fail
  refine bodyPost_ret (v := .agg #[.int .i64 7, .int .i64 n, .string ⟨#[]⟩, .slice none 0 0, .slice none 0 0]) (by simp [results, Tryz.results84, go_sem]) rfl ⟨⟨none, 0, rfl, World.ownsRow_nil _ _ _ _⟩, ?_⟩
  exact ((Below.refl w.heap.size w).alloc (Nat.le_refl _) _).alloc (by simp) _

set_option maxRecDepth 100000 in
set_option maxHeartbeats 1600000 in
theorem node_bool (i : Int) (b : Bool) (w : World) : Calls Tryz.prog 84 #[.iface 168 (.agg #[.int .i64 i, .bool b])] w (NdA (exN (.bool i b)) w) := by
  have a0 := ta_miss (S := 168) (T := 164) Tryz.underlying164 Tryz.zeroValue164 (by decide) 109
  have a1 := ta_miss (S := 168) (T := 166) Tryz.underlying166 Tryz.zeroValue166 (by decide) 109
  have hh := ta_hit (T := 168) Tryz.underlying168 109
  cases b
  · go_enter Tryz.func84, Tryz.ntmps84
    go_wp2_with fail
    refine bodyPost_ret (v := .agg #[.int .i64 3, .int .i64 0, .string ⟨#[]⟩, .slice none 0 0, .slice none 0 0]) (by simp [results, Tryz.results84, go_sem]) rfl ⟨⟨none, 0, rfl, World.ownsRow_nil _ _ _ _⟩, ?_⟩
    exact ((Below.refl w.heap.size w).alloc (Nat.le_refl _) _).alloc (by simp) _
  · go_enter Tryz.func84, Tryz.ntmps84
    go_wp2_with fail
    refine bodyPost_ret (v := .agg #[.int .i64 3, .int .i64 1, .string ⟨#[]⟩, .slice none 0 0, .slice none 0 0]) (by simp [results, Tryz.results84, go_sem]) rfl ⟨⟨none, 0, rfl, World.ownsRow_nil _ _ _ _⟩, ?_⟩
    exact ((Below.refl w.heap.size w).alloc (Nat.le_refl _) _).alloc (by simp) _

set_option maxRecDepth 100000 in
set_option maxHeartbeats 1600000 in
theorem node_un (i op : Int) (t1 : TypeId) (u1 : Value) (k : Ex) (w : World) : Calls Tryz.prog 84 #[.iface 176 (.agg #[.int .i64 i, .int .i64 op, .iface t1 u1])] w (NdA (exN (.un i op k)) w) := by
  have a0 := ta_miss (S := 176) (T := 164) Tryz.underlying164 Tryz.zeroValue164 (by decide) 109
  have a1 := ta_miss (S := 176) (T := 166) Tryz.underlying166 Tryz.zeroValue166 (by decide) 109
  have a2 := ta_miss (S := 176) (T := 168) Tryz.underlying168 Tryz.zeroValue168 (by decide) 109
  have a3 := ta_miss (S := 176) (T := 170) Tryz.underlying170 Tryz.zeroValue170 (by decide) 109
  have a4 := ta_miss (S := 176) (T := 172) Tryz.underlying172 Tryz.zeroValue172 (by decide) 109
  have a5 := ta_miss (S := 176) (T := 173) Tryz.underlying173 Tryz.zeroValue173 (by decide) 109
  have a6 := ta_miss (S := 176) (T := 174) Tryz.underlying174 Tryz.zeroValue174 (by decide) 109
  have hh := ta_hit (T := 176) Tryz.underlying176 109
  go_enter Tryz.func84, Tryz.ntmps84
  go_wp2_with fail
  refine bodyPost_ret (v := .agg #[.int .i64 op, .int .i64 0, .string ⟨#[]⟩, .slice none 0 0, .slice none 0 0]) (by simp [results, Tryz.results84, go_sem]) rfl ⟨⟨none, 0, rfl, World.ownsRow_nil _ _ _ _⟩, ?_⟩
  exact ((Below.refl w.heap.size w).alloc (Nat.le_refl _) _).alloc (by simp) _

set_option maxRecDepth 100000 in
set_option maxHeartbeats 1600000 in
theorem node_bin (i op : Int) (t1 : TypeId) (u1 : Value) (t2 : TypeId) (u2 : Value) (k l : Ex) (w : World) : Calls Tryz.prog 84 #[.iface 178 (.agg #[.int .i64 i, .int .i64 op, .iface t1 u1, .iface t2 u2])] w (NdA (exN (.bin i op k l)) w) := by
  have a0 := ta_miss (S := 178) (T := 164) Tryz.underlying164 Tryz.zeroValue164 (by decide) 109
  have a1 := ta_miss (S := 178) (T := 166) Tryz.underlying166 Tryz.zeroValue166 (by decide) 109
  have a2 := ta_miss (S := 178) (T := 168) Tryz.underlying168 Tryz.zeroValue168 (by decide) 109
  have a3 := ta_miss (S := 178) (T := 170) Tryz.underlying170 Tryz.zeroValue170 (by decide) 109
  have a4 := ta_miss (S := 178) (T := 172) Tryz.underlying172 Tryz.zeroValue172 (by decide) 109
  have a5 := ta_miss (S := 178) (T := 173) Tryz.underlying173 Tryz.zeroValue173 (by decide) 109
  have a6 := ta_miss (S := 178) (T := 174) Tryz.underlying174 Tryz.zeroValue174 (by decide) 109
  have a7 := ta_miss (S := 178) (T := 176) Tryz.underlying176 Tryz.zeroValue176 (by decide) 109
  have hh := ta_hit (T := 178) Tryz.underlying178 109
  go_enter Tryz.func84, Tryz.ntmps84
  go_wp2_with fail
  refine bodyPost_ret (v := .agg #[.int .i64 op, .int .i64 0, .string ⟨#[]⟩, .slice none 0 0, .slice none 0 0]) (by simp [results, Tryz.results84, go_sem]) rfl ⟨⟨none, 0, rfl, World.ownsRow_nil _ _ _ _⟩, ?_⟩
  exact ((Below.refl w.heap.size w).alloc (Nat.le_refl _) _).alloc (by simp) _

set_option maxRecDepth 100000 in
set_option maxHeartbeats 1600000 in
theorem node_ite (i : Int) (t1 : TypeId) (u1 : Value) (t2 : TypeId) (u2 : Value) (t3 : TypeId) (u3 : Value) (k l m : Ex) (w : World) : Calls Tryz.prog 84 #[.iface 180 (.agg #[.int .i64 i, .iface t1 u1, .iface t2 u2, .iface t3 u3])] w (NdA (exN (.ite i k l m)) w) := by
  have a0 := ta_miss (S := 180) (T := 164) Tryz.underlying164 Tryz.zeroValue164 (by decide) 109
  have a1 := ta_miss (S := 180) (T := 166) Tryz.underlying166 Tryz.zeroValue166 (by decide) 109
  have a2 := ta_miss (S := 180) (T := 168) Tryz.underlying168 Tryz.zeroValue168 (by decide) 109
  have a3 := ta_miss (S := 180) (T := 170) Tryz.underlying170 Tryz.zeroValue170 (by decide) 109
  have a4 := ta_miss (S := 180) (T := 172) Tryz.underlying172 Tryz.zeroValue172 (by decide) 109
  have a5 := ta_miss (S := 180) (T := 173) Tryz.underlying173 Tryz.zeroValue173 (by decide) 109
  have a6 := ta_miss (S := 180) (T := 174) Tryz.underlying174 Tryz.zeroValue174 (by decide) 109
  have a7 := ta_miss (S := 180) (T := 176) Tryz.underlying176 Tryz.zeroValue176 (by decide) 109
  have a8 := ta_miss (S := 180) (T := 178) Tryz.underlying178 Tryz.zeroValue178 (by decide) 109
  have hh := ta_hit (T := 180) Tryz.underlying180 109
  go_enter Tryz.func84, Tryz.ntmps84
  go_wp2_with fail
  refine bodyPost_ret (v := .agg #[.int .i64 27, .int .i64 0, .string ⟨#[]⟩, .slice none 0 0, .slice none 0 0]) (by simp [results, Tryz.results84, go_sem]) rfl ⟨⟨none, 0, rfl, World.ownsRow_nil _ _ _ _⟩, ?_⟩
  exact ((Below.refl w.heap.size w).alloc (Nat.le_refl _) _).alloc (by simp) _

set_option maxRecDepth 100000 in
set_option maxHeartbeats 1600000 in
theorem node_set (i : Int) (a : Option Addr) (n c : Nat) (ss : List ByteArray) (w : World) (hS : Strs w a n c ss) (hl : ss.length ≤ 1048576) : Calls Tryz.prog 84 #[.iface 170 (.agg #[.int .i64 i, .slice a n c])] w (NdA (exN (.set i a n c ss)) w) := by
  have a0 := ta_miss (S := 170) (T := 164) Tryz.underlying164 Tryz.zeroValue164 (by decide) 109
  have a1 := ta_miss (S := 170) (T := 166) Tryz.underlying166 Tryz.zeroValue166 (by decide) 109
  have a2 := ta_miss (S := 170) (T := 168) Tryz.underlying168 Tryz.zeroValue168 (by decide) 109
  have hh := ta_hit (T := 170) Tryz.underlying170 109
  have B2 := ((Below.refl w.heap.size w).alloc (Nat.le_refl _) (.cells #[.int .i64 0, .int .i64 0, .string ⟨#[]⟩, .slice none 0 0, .slice none 0 0] 91)).alloc (by simp) (.cells #[.int .i64 i, .slice a n c] 170)
  have R1 := (Row.new w #[.int .i64 0, .int .i64 0, .string ⟨#[]⟩, .slice none 0 0, .slice none 0 0] 91).alloc (.cells #[.int .i64 i, .slice a n c] 170)
  have HC := hide (cloneC_any a n c ss _ (hS.below B2 (Nat.le_refl _)) hl)
  clear hS
  go_enter Tryz.func84, Tryz.ntmps84
  go_wp2_with fail
  refine (unhide HC).mono ?_
  rintro r w1 ⟨⟨x, cx, rfl, OO⟩, hb1⟩
  have R4 := R1.after hb1 (Nat.le_refl _)
  obtain ⟨x0, x1, x2, x3, x4⟩ := row5N R4
  have f0 := fun j => R4.frozen j
  obtain ⟨p0, p1, p2, p3, p4⟩ := row5N ((((((R4).set 0 (.int .i64 4)).set 1 (.int .i64 0)).set 2 (.string ⟨#[]⟩)).set 3 (.slice x ss.length cx)).set 4 (.slice none 0 0))
  have B4 := B2.trans (hb1.mono (by simp; omega))
  have ne : ∀ q, (Value.slice x ss.length cx).ownBlock = some q → q ≠ w.heap.size := fun q hq h => by have := (OO.lt q hq).1; simp at this; omega
  have HBE := hide ((((((B4).setCell (p := ⟨w.heap.size, 0, none⟩) (Nat.le_refl _) (.int .i64 4)).setCell (p := ⟨w.heap.size, 1, none⟩) (Nat.le_refl _) (.int .i64 0)).setCell (p := ⟨w.heap.size, 2, none⟩) (Nat.le_refl _) (.string ⟨#[]⟩)).setCell (p := ⟨w.heap.size, 3, none⟩) (Nat.le_refl _) (.slice x ss.length cx)).setCell (p := ⟨w.heap.size, 4, none⟩) (Nat.le_refl _) (.slice none 0 0))
  have OE := hide ((own_set3 (own_set3 (own_set3 (own_set3 (own_set3 (own_lowC (base' := w.heap.size) OO (by simp; omega)) ⟨w.heap.size, 0, none⟩ (.int .i64 4) ne) ⟨w.heap.size, 1, none⟩ (.int .i64 0) ne) ⟨w.heap.size, 2, none⟩ (.string ⟨#[]⟩) ne) ⟨w.heap.size, 3, none⟩ (.slice x ss.length cx) ne) ⟨w.heap.size, 4, none⟩ (.slice none 0 0) ne))
  clear R1 R4 B2 B4 hb1 HC OO ne
  dsimp only
  go_wp2_with fail
  refine bodyPost_ret (v := .agg #[.int .i64 4, .int .i64 0, .string ⟨#[]⟩, .slice x ss.length cx, .slice none 0 0]) (by simp [results, Tryz.results84, go_sem, p0, p1, p2, p3, p4]) rfl ?_
  exact ⟨⟨x, cx, rfl, unhide OE⟩, unhide HBE⟩

end Go.Proofs.YtcehablmloleaaaGreatDoor

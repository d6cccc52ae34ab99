/-
  Parse, the model: terminals, symbols (written by mkhd.py). Own work.
-/
import Derived.Test.YtcehablmloleaaaGreatDoorMXAN
import Derived.Test.YtcehablmloleaaaGreatDoorMXAH
namespace Go.Proofs.YtcehablmloleaaaGreatDoor
open Go.RowKit
set_option linter.unusedVariables false

theorem eqL (t u : List UInt8) : ((ofL t).toList == u) = decide (t = u) := by
  rw [ByteArray.toList_eq]
  show (t == u) = _
  by_cases e : t = u
  · rw [decide_eq_true e, e]; simp
  · rw [decide_eq_false e]; simpa using e

set_option maxHeartbeats 1600000 in
theorem l2kind_any (t : Tok) (w : World) : Calls Tryz.prog 29 #[.agg #[.int .i64 t.kind, .int .i64 t.num, .string t.text, .int .i64 (t.at_ : Int)]] w fun e w' => e = .returned (.string (ofL (tk t))) ∧ Below w.heap.size w w' := by
  have B0 := (Below.refl w.heap.size w).alloc (Nat.le_refl _) (.cells #[.int .i64 t.kind, .int .i64 t.num, .string t.text, .int .i64 (t.at_ : Int)] 42)
  by_cases h1 : t.kind = 1
  · have HT := hide (show tk t = kNUM by rw [tk, if_pos h1])
    have e1 : (t.kind == 1) = true := beq_iff_eq.2 h1
    clear h1
    go_enter Tryz.func29, Tryz.ntmps29
    go_wp2_with fail
    go_ret
    exact ⟨by rw [unhide HT]; rfl, B0⟩
  by_cases h2 : t.kind = 2
  · have HT := hide (show tk t = kTEXT by rw [tk, if_neg h1, if_pos h2])
    have e1 : (t.kind == 1) = false := beq_eq_false_iff_ne.2 h1
    have e2 : (t.kind == 2) = true := beq_iff_eq.2 h2
    clear h1 h2
    go_enter Tryz.func29, Tryz.ntmps29
    go_wp2_with fail
    go_ret
    exact ⟨by rw [unhide HT]; rfl, B0⟩
  by_cases h3 : t.kind = 3
  · have HT := hide (show tk t = kNAME by rw [tk, if_neg h1, if_neg h2, if_pos h3])
    have e1 : (t.kind == 1) = false := beq_eq_false_iff_ne.2 h1
    have e2 : (t.kind == 2) = false := beq_eq_false_iff_ne.2 h2
    have e3 : (t.kind == 3) = true := beq_iff_eq.2 h3
    clear h1 h2 h3
    go_enter Tryz.func29, Tryz.ntmps29
    go_wp2_with fail
    go_ret
    exact ⟨by rw [unhide HT]; rfl, B0⟩
  · have HT := hide (show tk t = toL t.text by rw [tk, if_neg h1, if_neg h2, if_neg h3])
    have e1 : (t.kind == 1) = false := beq_eq_false_iff_ne.2 h1
    have e2 : (t.kind == 2) = false := beq_eq_false_iff_ne.2 h2
    have e3 : (t.kind == 3) = false := beq_eq_false_iff_ne.2 h3
    clear h1 h2 h3
    go_enter Tryz.func29, Tryz.ntmps29
    go_wp2_with fail
    go_ret
    exact ⟨by rw [unhide HT, ofL_toL]; rfl, B0⟩

/-- the names of the symbols -/
def Sy.str : Sy → List UInt8
  | .policy => [80, 111, 108, 105, 99, 121]
  | .decision => [68, 101, 99, 105, 115, 105, 111, 110]
  | .expr => [69, 120, 112, 114]
  | .orMore => [79, 114, 77, 111, 114, 101]
  | .and_ => [65, 110, 100]
  | .andMore => [65, 110, 100, 77, 111, 114, 101]
  | .not_ => [78, 111, 116]
  | .compared => [67, 111, 109, 112, 97, 114, 101, 100]
  | .sum => [83, 117, 109]
  | .sumMore => [83, 117, 109, 77, 111, 114, 101]
  | .term => [84, 101, 114, 109]
  | .termMore => [84, 101, 114, 109, 77, 111, 114, 101]
  | .unary => [85, 110, 97, 114, 121]
  | .primary => [80, 114, 105, 109, 97, 114, 121]
  | .scopes => [83, 99, 111, 112, 101, 115]
  | .scopesMore => [83, 99, 111, 112, 101, 115, 77, 111, 114, 101]
  | .scope => [83, 67, 79, 80, 69]
  | .t s => s

def syB (x : Sy) : ByteArray := ofL x.str

/-- what l2expand answers -/
def ExA (o : Option (List Sy)) (w : World) (r : Ending) (w' : World) : Prop :=
  (match o with
   | some m => ∃ a cx, r = .returned (.tuple #[.slice a m.length cx, .bool true]) ∧ w'.ownsRow w.heap.size 9 1 (.slice a m.length cx) m.length (m.map fun y => Value.string (syB y))
   | none => r = .returned (.tuple #[.slice none 0 0, .bool false])) ∧ Below w.heap.size w w'

theorem owns_lowE {w : World} {B B' n size : Nat} {e : TypeId} {v : Value} {xs : List Value} (h : w.ownsRow B e size v n xs) (hB : B' ≤ B) : w.ownsRow B' e size v n xs := by
  refine ⟨h.1, ?_⟩
  rcases h.2 with h0 | ⟨g, cap, cur, hv, h1, h2⟩
  · exact .inl h0
  · exact .inr ⟨g, cap, cur, hv, Nat.le_trans hB h1, h2⟩

theorem own_lit (w : World) (vs : Array Value) (n : Nat) (h : vs.size = n) (hm : n ≤ maxLen) : (w.alloc (.cells vs 9)).ownsRow w.heap.size 9 1 (.slice (some ⟨w.heap.size, 0, none⟩) n n) n vs.toList := by
  refine ⟨by simp [h], .inr ⟨w.heap.size, n, vs, rfl, Nat.le_refl _, heap_alloc_new w _, Nat.le_refl _, hm, by omega, ?_⟩⟩
  rw [Nat.mul_one, List.take_of_length_le (by simp; omega)]

set_option maxRecDepth 100000 in
set_option maxHeartbeats 1600000 in
theorem ex_Policy_0 (tb : ByteArray) (w : World) (e0 : (tb.toList == [108, 101, 116]) = true) : Calls Tryz.prog 30 #[.string ⟨#[80, 111, 108, 105, 99, 121]⟩, .string tb] w fun r w' => r = .returned (.tuple #[.slice (some ⟨w.heap.size, 0, none⟩) 6 6, .bool true]) ∧ w' = w.alloc (.cells #[.string ⟨#[108, 101, 116]⟩, .string ⟨#[78, 65, 77, 69]⟩, .string ⟨#[61]⟩, .string ⟨#[69, 120, 112, 114]⟩, .string ⟨#[59]⟩, .string ⟨#[80, 111, 108, 105, 99, 121]⟩] 9) := by
  go_enter Tryz.func30, Tryz.ntmps30
  go_wp2_with fail
  go_ret2
  exact ⟨rfl, rfl⟩

set_option maxRecDepth 100000 in
set_option maxHeartbeats 1600000 in
theorem ex_Policy_1 (tb : ByteArray) (w : World) (e0 : (tb.toList == [108, 101, 116]) = false) (e1 : (tb.toList == [119, 104, 101, 110]) = true) : Calls Tryz.prog 30 #[.string ⟨#[80, 111, 108, 105, 99, 121]⟩, .string tb] w fun r w' => r = .returned (.tuple #[.slice (some ⟨w.heap.size, 0, none⟩) 6 6, .bool true]) ∧ w' = w.alloc (.cells #[.string ⟨#[119, 104, 101, 110]⟩, .string ⟨#[69, 120, 112, 114]⟩, .string ⟨#[61, 62]⟩, .string ⟨#[68, 101, 99, 105, 115, 105, 111, 110]⟩, .string ⟨#[59]⟩, .string ⟨#[80, 111, 108, 105, 99, 121]⟩] 9) := by
  go_enter Tryz.func30, Tryz.ntmps30
  go_wp2_with fail
  go_ret2
  exact ⟨rfl, rfl⟩

set_option maxRecDepth 100000 in
set_option maxHeartbeats 1600000 in
theorem ex_Policy_2 (tb : ByteArray) (w : World) (e0 : (tb.toList == [108, 101, 116]) = false) (e1 : (tb.toList == [119, 104, 101, 110]) = false) : Calls Tryz.prog 30 #[.string ⟨#[80, 111, 108, 105, 99, 121]⟩, .string tb] w fun r w' => r = .returned (.tuple #[.slice (some ⟨w.heap.size, 0, none⟩) 3 3, .bool true]) ∧ w' = w.alloc (.cells #[.string ⟨#[101, 108, 115, 101]⟩, .string ⟨#[68, 101, 99, 105, 115, 105, 111, 110]⟩, .string ⟨#[59]⟩] 9) := by
  go_enter Tryz.func30, Tryz.ntmps30
  go_wp2_with fail
  go_ret2
  exact ⟨rfl, rfl⟩

theorem ex_Policy (t : List UInt8) (w : World) : Calls Tryz.prog 30 #[.string (syB .policy), .string (ofL t)] w (ExA (expandS .policy t) w) := by
  show Calls Tryz.prog 30 #[.string ⟨#[80, 111, 108, 105, 99, 121]⟩, .string (ofL t)] w (ExA (expandS .policy t) w)
  by_cases h0 : t = kLet
  · have hx : expandS .policy t = some [.t [108, 101, 116], .t [78, 65, 77, 69], .t [61], .expr, .t [59], .policy] := by rw [expandS, if_pos h0 ] <;> rfl
    rw [hx]
    refine (ex_Policy_0 (ofL t) w (by rw [eqL]; exact decide_eq_true h0)).mono ?_
    rintro r w' ⟨rfl, rfl⟩
    exact ⟨⟨_, _, rfl, own_lit w _ 6 rfl (by unfold maxLen; omega)⟩, (Below.refl w.heap.size w).alloc (Nat.le_refl _) _⟩
  by_cases h1 : t = kWhen
  · have hx : expandS .policy t = some [.t [119, 104, 101, 110], .expr, .t [61, 62], .decision, .t [59], .policy] := by rw [expandS, if_neg h0, if_pos h1 ] <;> rfl
    rw [hx]
    refine (ex_Policy_1 (ofL t) w (by rw [eqL]; exact decide_eq_false h0) (by rw [eqL]; exact decide_eq_true h1)).mono ?_
    rintro r w' ⟨rfl, rfl⟩
    exact ⟨⟨_, _, rfl, own_lit w _ 6 rfl (by unfold maxLen; omega)⟩, (Below.refl w.heap.size w).alloc (Nat.le_refl _) _⟩
  have hx : expandS .policy t = some [.t [101, 108, 115, 101], .decision, .t [59]] := by rw [expandS, if_neg h0, if_neg h1 ] <;> rfl
  rw [hx]
  refine (ex_Policy_2 (ofL t) w (by rw [eqL]; exact decide_eq_false h0) (by rw [eqL]; exact decide_eq_false h1)).mono ?_
  rintro r w' ⟨rfl, rfl⟩
  exact ⟨⟨_, _, rfl, own_lit w _ 3 rfl (by unfold maxLen; omega)⟩, (Below.refl w.heap.size w).alloc (Nat.le_refl _) _⟩

set_option maxRecDepth 100000 in
set_option maxHeartbeats 1600000 in
theorem ex_Decision_0 (tb : ByteArray) (w : World) (e0 : (tb.toList == [103, 114, 97, 110, 116]) = true) : Calls Tryz.prog 30 #[.string ⟨#[68, 101, 99, 105, 115, 105, 111, 110]⟩, .string tb] w fun r w' => r = .returned (.tuple #[.slice (some ⟨w.heap.size, 0, none⟩) 2 2, .bool true]) ∧ w' = w.alloc (.cells #[.string ⟨#[103, 114, 97, 110, 116]⟩, .string ⟨#[69, 120, 112, 114]⟩] 9) := by
  go_enter Tryz.func30, Tryz.ntmps30
  go_wp2_with fail
  go_ret2
  exact ⟨rfl, rfl⟩

set_option maxRecDepth 100000 in
set_option maxHeartbeats 1600000 in
theorem ex_Decision_1 (tb : ByteArray) (w : World) (e0 : (tb.toList == [103, 114, 97, 110, 116]) = false) : Calls Tryz.prog 30 #[.string ⟨#[68, 101, 99, 105, 115, 105, 111, 110]⟩, .string tb] w fun r w' => r = .returned (.tuple #[.slice (some ⟨w.heap.size, 0, none⟩) 1 1, .bool true]) ∧ w' = w.alloc (.cells #[.string ⟨#[100, 101, 110, 121]⟩] 9) := by
  go_enter Tryz.func30, Tryz.ntmps30
  go_wp2_with fail
  go_ret2
  exact ⟨rfl, rfl⟩

theorem ex_Decision (t : List UInt8) (w : World) : Calls Tryz.prog 30 #[.string (syB .decision), .string (ofL t)] w (ExA (expandS .decision t) w) := by
  show Calls Tryz.prog 30 #[.string ⟨#[68, 101, 99, 105, 115, 105, 111, 110]⟩, .string (ofL t)] w (ExA (expandS .decision t) w)
  by_cases h0 : t = kGrant
  · have hx : expandS .decision t = some [.t [103, 114, 97, 110, 116], .expr] := by rw [expandS, if_pos h0 ] <;> rfl
    rw [hx]
    refine (ex_Decision_0 (ofL t) w (by rw [eqL]; exact decide_eq_true h0)).mono ?_
    rintro r w' ⟨rfl, rfl⟩
    exact ⟨⟨_, _, rfl, own_lit w _ 2 rfl (by unfold maxLen; omega)⟩, (Below.refl w.heap.size w).alloc (Nat.le_refl _) _⟩
  have hx : expandS .decision t = some [.t [100, 101, 110, 121]] := by rw [expandS, if_neg h0 ] <;> rfl
  rw [hx]
  refine (ex_Decision_1 (ofL t) w (by rw [eqL]; exact decide_eq_false h0)).mono ?_
  rintro r w' ⟨rfl, rfl⟩
  exact ⟨⟨_, _, rfl, own_lit w _ 1 rfl (by unfold maxLen; omega)⟩, (Below.refl w.heap.size w).alloc (Nat.le_refl _) _⟩

set_option maxRecDepth 100000 in
set_option maxHeartbeats 1600000 in
theorem ex_Expr_0 (tb : ByteArray) (w : World) (e0 : (tb.toList == [105, 102]) = true) : Calls Tryz.prog 30 #[.string ⟨#[69, 120, 112, 114]⟩, .string tb] w fun r w' => r = .returned (.tuple #[.slice (some ⟨w.heap.size, 0, none⟩) 6 6, .bool true]) ∧ w' = w.alloc (.cells #[.string ⟨#[105, 102]⟩, .string ⟨#[69, 120, 112, 114]⟩, .string ⟨#[116, 104, 101, 110]⟩, .string ⟨#[69, 120, 112, 114]⟩, .string ⟨#[101, 108, 115, 101]⟩, .string ⟨#[69, 120, 112, 114]⟩] 9) := by
  go_enter Tryz.func30, Tryz.ntmps30
  go_wp2_with fail
  go_ret2
  exact ⟨rfl, rfl⟩

set_option maxRecDepth 100000 in
set_option maxHeartbeats 1600000 in
theorem ex_Expr_1 (tb : ByteArray) (w : World) (e0 : (tb.toList == [105, 102]) = false) : Calls Tryz.prog 30 #[.string ⟨#[69, 120, 112, 114]⟩, .string tb] w fun r w' => r = .returned (.tuple #[.slice (some ⟨w.heap.size, 0, none⟩) 2 2, .bool true]) ∧ w' = w.alloc (.cells #[.string ⟨#[65, 110, 100]⟩, .string ⟨#[79, 114, 77, 111, 114, 101]⟩] 9) := by
  go_enter Tryz.func30, Tryz.ntmps30
  go_wp2_with fail
  go_ret2
  exact ⟨rfl, rfl⟩

theorem ex_Expr (t : List UInt8) (w : World) : Calls Tryz.prog 30 #[.string (syB .expr), .string (ofL t)] w (ExA (expandS .expr t) w) := by
  show Calls Tryz.prog 30 #[.string ⟨#[69, 120, 112, 114]⟩, .string (ofL t)] w (ExA (expandS .expr t) w)
  by_cases h0 : t = kIf
  · have hx : expandS .expr t = some [.t [105, 102], .expr, .t [116, 104, 101, 110], .expr, .t [101, 108, 115, 101], .expr] := by rw [expandS, if_pos h0 ] <;> rfl
    rw [hx]
    refine (ex_Expr_0 (ofL t) w (by rw [eqL]; exact decide_eq_true h0)).mono ?_
    rintro r w' ⟨rfl, rfl⟩
    exact ⟨⟨_, _, rfl, own_lit w _ 6 rfl (by unfold maxLen; omega)⟩, (Below.refl w.heap.size w).alloc (Nat.le_refl _) _⟩
  have hx : expandS .expr t = some [.and_, .orMore] := by rw [expandS, if_neg h0 ] <;> rfl
  rw [hx]
  refine (ex_Expr_1 (ofL t) w (by rw [eqL]; exact decide_eq_false h0)).mono ?_
  rintro r w' ⟨rfl, rfl⟩
  exact ⟨⟨_, _, rfl, own_lit w _ 2 rfl (by unfold maxLen; omega)⟩, (Below.refl w.heap.size w).alloc (Nat.le_refl _) _⟩

set_option maxRecDepth 100000 in
set_option maxHeartbeats 1600000 in
theorem ex_OrMore_0 (tb : ByteArray) (w : World) (e0 : (tb.toList == [111, 114]) = true) : Calls Tryz.prog 30 #[.string ⟨#[79, 114, 77, 111, 114, 101]⟩, .string tb] w fun r w' => r = .returned (.tuple #[.slice (some ⟨w.heap.size, 0, none⟩) 3 3, .bool true]) ∧ w' = w.alloc (.cells #[.string ⟨#[111, 114]⟩, .string ⟨#[65, 110, 100]⟩, .string ⟨#[79, 114, 77, 111, 114, 101]⟩] 9) := by
  go_enter Tryz.func30, Tryz.ntmps30
  go_wp2_with fail
  go_ret2
  exact ⟨rfl, rfl⟩

set_option maxRecDepth 100000 in
set_option maxHeartbeats 1600000 in
theorem ex_OrMore_1 (tb : ByteArray) (w : World) (e0 : (tb.toList == [111, 114]) = false) : Calls Tryz.prog 30 #[.string ⟨#[79, 114, 77, 111, 114, 101]⟩, .string tb] w fun r w' => r = .returned (.tuple #[.slice none 0 0, .bool true]) ∧ w' = w := by
  go_enter Tryz.func30, Tryz.ntmps30
  go_wp2_with fail
  go_ret2
  exact ⟨rfl, rfl⟩

theorem ex_OrMore (t : List UInt8) (w : World) : Calls Tryz.prog 30 #[.string (syB .orMore), .string (ofL t)] w (ExA (expandS .orMore t) w) := by
  show Calls Tryz.prog 30 #[.string ⟨#[79, 114, 77, 111, 114, 101]⟩, .string (ofL t)] w (ExA (expandS .orMore t) w)
  by_cases h0 : t = kOr
  · have hx : expandS .orMore t = some [.t [111, 114], .and_, .orMore] := by rw [expandS, if_pos h0 ] <;> rfl
    rw [hx]
    refine (ex_OrMore_0 (ofL t) w (by rw [eqL]; exact decide_eq_true h0)).mono ?_
    rintro r w' ⟨rfl, rfl⟩
    exact ⟨⟨_, _, rfl, own_lit w _ 3 rfl (by unfold maxLen; omega)⟩, (Below.refl w.heap.size w).alloc (Nat.le_refl _) _⟩
  have hx : expandS .orMore t = some [] := by rw [expandS, if_neg h0 ] <;> rfl
  rw [hx]
  refine (ex_OrMore_1 (ofL t) w (by rw [eqL]; exact decide_eq_false h0)).mono ?_
  rintro r w' ⟨rfl, rfl⟩
  exact ⟨⟨none, 0, rfl, World.ownsRow_nil _ _ _ _⟩, Below.refl _ _⟩

set_option maxRecDepth 100000 in
set_option maxHeartbeats 1600000 in
theorem ex_And_0 (tb : ByteArray) (w : World)  : Calls Tryz.prog 30 #[.string ⟨#[65, 110, 100]⟩, .string tb] w fun r w' => r = .returned (.tuple #[.slice (some ⟨w.heap.size, 0, none⟩) 2 2, .bool true]) ∧ w' = w.alloc (.cells #[.string ⟨#[78, 111, 116]⟩, .string ⟨#[65, 110, 100, 77, 111, 114, 101]⟩] 9) := by
  go_enter Tryz.func30, Tryz.ntmps30
  go_wp2_with fail
  go_ret2
  exact ⟨rfl, rfl⟩

theorem ex_And (t : List UInt8) (w : World) : Calls Tryz.prog 30 #[.string (syB .and_), .string (ofL t)] w (ExA (expandS .and_ t) w) := by
  show Calls Tryz.prog 30 #[.string ⟨#[65, 110, 100]⟩, .string (ofL t)] w (ExA (expandS .and_ t) w)
  have hx : expandS .and_ t = some [.not_, .andMore] := by rfl
  rw [hx]
  refine (ex_And_0 (ofL t) w).mono ?_
  rintro r w' ⟨rfl, rfl⟩
  exact ⟨⟨_, _, rfl, own_lit w _ 2 rfl (by unfold maxLen; omega)⟩, (Below.refl w.heap.size w).alloc (Nat.le_refl _) _⟩

set_option maxRecDepth 100000 in
set_option maxHeartbeats 1600000 in
theorem ex_AndMore_0 (tb : ByteArray) (w : World) (e0 : (tb.toList == [97, 110, 100]) = true) : Calls Tryz.prog 30 #[.string ⟨#[65, 110, 100, 77, 111, 114, 101]⟩, .string tb] w fun r w' => r = .returned (.tuple #[.slice (some ⟨w.heap.size, 0, none⟩) 3 3, .bool true]) ∧ w' = w.alloc (.cells #[.string ⟨#[97, 110, 100]⟩, .string ⟨#[78, 111, 116]⟩, .string ⟨#[65, 110, 100, 77, 111, 114, 101]⟩] 9) := by
  go_enter Tryz.func30, Tryz.ntmps30
  go_wp2_with fail
  go_ret2
  exact ⟨rfl, rfl⟩

set_option maxRecDepth 100000 in
set_option maxHeartbeats 1600000 in
theorem ex_AndMore_1 (tb : ByteArray) (w : World) (e0 : (tb.toList == [97, 110, 100]) = false) : Calls Tryz.prog 30 #[.string ⟨#[65, 110, 100, 77, 111, 114, 101]⟩, .string tb] w fun r w' => r = .returned (.tuple #[.slice none 0 0, .bool true]) ∧ w' = w := by
  go_enter Tryz.func30, Tryz.ntmps30
  go_wp2_with fail
  go_ret2
  exact ⟨rfl, rfl⟩

theorem ex_AndMore (t : List UInt8) (w : World) : Calls Tryz.prog 30 #[.string (syB .andMore), .string (ofL t)] w (ExA (expandS .andMore t) w) := by
  show Calls Tryz.prog 30 #[.string ⟨#[65, 110, 100, 77, 111, 114, 101]⟩, .string (ofL t)] w (ExA (expandS .andMore t) w)
  by_cases h0 : t = kAnd
  · have hx : expandS .andMore t = some [.t [97, 110, 100], .not_, .andMore] := by rw [expandS, if_pos h0 ] <;> rfl
    rw [hx]
    refine (ex_AndMore_0 (ofL t) w (by rw [eqL]; exact decide_eq_true h0)).mono ?_
    rintro r w' ⟨rfl, rfl⟩
    exact ⟨⟨_, _, rfl, own_lit w _ 3 rfl (by unfold maxLen; omega)⟩, (Below.refl w.heap.size w).alloc (Nat.le_refl _) _⟩
  have hx : expandS .andMore t = some [] := by rw [expandS, if_neg h0 ] <;> rfl
  rw [hx]
  refine (ex_AndMore_1 (ofL t) w (by rw [eqL]; exact decide_eq_false h0)).mono ?_
  rintro r w' ⟨rfl, rfl⟩
  exact ⟨⟨none, 0, rfl, World.ownsRow_nil _ _ _ _⟩, Below.refl _ _⟩

set_option maxRecDepth 100000 in
set_option maxHeartbeats 1600000 in
theorem ex_Not_0 (tb : ByteArray) (w : World) (e0 : (tb.toList == [110, 111, 116]) = true) : Calls Tryz.prog 30 #[.string ⟨#[78, 111, 116]⟩, .string tb] w fun r w' => r = .returned (.tuple #[.slice (some ⟨w.heap.size, 0, none⟩) 2 2, .bool true]) ∧ w' = w.alloc (.cells #[.string ⟨#[110, 111, 116]⟩, .string ⟨#[78, 111, 116]⟩] 9) := by
  go_enter Tryz.func30, Tryz.ntmps30
  go_wp2_with fail
  go_ret2
  exact ⟨rfl, rfl⟩

set_option maxRecDepth 100000 in
set_option maxHeartbeats 1600000 in
theorem ex_Not_1 (tb : ByteArray) (w : World) (e0 : (tb.toList == [110, 111, 116]) = false) : Calls Tryz.prog 30 #[.string ⟨#[78, 111, 116]⟩, .string tb] w fun r w' => r = .returned (.tuple #[.slice (some ⟨w.heap.size, 0, none⟩) 2 2, .bool true]) ∧ w' = w.alloc (.cells #[.string ⟨#[83, 117, 109]⟩, .string ⟨#[67, 111, 109, 112, 97, 114, 101, 100]⟩] 9) := by
  go_enter Tryz.func30, Tryz.ntmps30
  go_wp2_with fail
  go_ret2
  exact ⟨rfl, rfl⟩

theorem ex_Not (t : List UInt8) (w : World) : Calls Tryz.prog 30 #[.string (syB .not_), .string (ofL t)] w (ExA (expandS .not_ t) w) := by
  show Calls Tryz.prog 30 #[.string ⟨#[78, 111, 116]⟩, .string (ofL t)] w (ExA (expandS .not_ t) w)
  by_cases h0 : t = kNot
  · have hx : expandS .not_ t = some [.t [110, 111, 116], .not_] := by rw [expandS, if_pos h0 ] <;> rfl
    rw [hx]
    refine (ex_Not_0 (ofL t) w (by rw [eqL]; exact decide_eq_true h0)).mono ?_
    rintro r w' ⟨rfl, rfl⟩
    exact ⟨⟨_, _, rfl, own_lit w _ 2 rfl (by unfold maxLen; omega)⟩, (Below.refl w.heap.size w).alloc (Nat.le_refl _) _⟩
  have hx : expandS .not_ t = some [.sum, .compared] := by rw [expandS, if_neg h0 ] <;> rfl
  rw [hx]
  refine (ex_Not_1 (ofL t) w (by rw [eqL]; exact decide_eq_false h0)).mono ?_
  rintro r w' ⟨rfl, rfl⟩
  exact ⟨⟨_, _, rfl, own_lit w _ 2 rfl (by unfold maxLen; omega)⟩, (Below.refl w.heap.size w).alloc (Nat.le_refl _) _⟩

set_option maxRecDepth 100000 in
set_option maxHeartbeats 1600000 in
theorem ex_Sum_0 (tb : ByteArray) (w : World)  : Calls Tryz.prog 30 #[.string ⟨#[83, 117, 109]⟩, .string tb] w fun r w' => r = .returned (.tuple #[.slice (some ⟨w.heap.size, 0, none⟩) 2 2, .bool true]) ∧ w' = w.alloc (.cells #[.string ⟨#[84, 101, 114, 109]⟩, .string ⟨#[83, 117, 109, 77, 111, 114, 101]⟩] 9) := by
  go_enter Tryz.func30, Tryz.ntmps30
  go_wp2_with fail
  go_ret2
  exact ⟨rfl, rfl⟩

theorem ex_Sum (t : List UInt8) (w : World) : Calls Tryz.prog 30 #[.string (syB .sum), .string (ofL t)] w (ExA (expandS .sum t) w) := by
  show Calls Tryz.prog 30 #[.string ⟨#[83, 117, 109]⟩, .string (ofL t)] w (ExA (expandS .sum t) w)
  have hx : expandS .sum t = some [.term, .sumMore] := by rfl
  rw [hx]
  refine (ex_Sum_0 (ofL t) w).mono ?_
  rintro r w' ⟨rfl, rfl⟩
  exact ⟨⟨_, _, rfl, own_lit w _ 2 rfl (by unfold maxLen; omega)⟩, (Below.refl w.heap.size w).alloc (Nat.le_refl _) _⟩

set_option maxRecDepth 100000 in
set_option maxHeartbeats 1600000 in
theorem ex_Term_0 (tb : ByteArray) (w : World)  : Calls Tryz.prog 30 #[.string ⟨#[84, 101, 114, 109]⟩, .string tb] w fun r w' => r = .returned (.tuple #[.slice (some ⟨w.heap.size, 0, none⟩) 2 2, .bool true]) ∧ w' = w.alloc (.cells #[.string ⟨#[85, 110, 97, 114, 121]⟩, .string ⟨#[84, 101, 114, 109, 77, 111, 114, 101]⟩] 9) := by
  go_enter Tryz.func30, Tryz.ntmps30
  go_wp2_with fail
  go_ret2
  exact ⟨rfl, rfl⟩

theorem ex_Term (t : List UInt8) (w : World) : Calls Tryz.prog 30 #[.string (syB .term), .string (ofL t)] w (ExA (expandS .term t) w) := by
  show Calls Tryz.prog 30 #[.string ⟨#[84, 101, 114, 109]⟩, .string (ofL t)] w (ExA (expandS .term t) w)
  have hx : expandS .term t = some [.unary, .termMore] := by rfl
  rw [hx]
  refine (ex_Term_0 (ofL t) w).mono ?_
  rintro r w' ⟨rfl, rfl⟩
  exact ⟨⟨_, _, rfl, own_lit w _ 2 rfl (by unfold maxLen; omega)⟩, (Below.refl w.heap.size w).alloc (Nat.le_refl _) _⟩

set_option maxRecDepth 100000 in
set_option maxHeartbeats 1600000 in
theorem ex_Unary_0 (tb : ByteArray) (w : World) (e0 : (tb.toList == [45]) = true) : Calls Tryz.prog 30 #[.string ⟨#[85, 110, 97, 114, 121]⟩, .string tb] w fun r w' => r = .returned (.tuple #[.slice (some ⟨w.heap.size, 0, none⟩) 2 2, .bool true]) ∧ w' = w.alloc (.cells #[.string ⟨#[45]⟩, .string ⟨#[85, 110, 97, 114, 121]⟩] 9) := by
  go_enter Tryz.func30, Tryz.ntmps30
  go_wp2_with fail
  go_ret2
  exact ⟨rfl, rfl⟩

set_option maxRecDepth 100000 in
set_option maxHeartbeats 1600000 in
theorem ex_Unary_1 (tb : ByteArray) (w : World) (e0 : (tb.toList == [45]) = false) : Calls Tryz.prog 30 #[.string ⟨#[85, 110, 97, 114, 121]⟩, .string tb] w fun r w' => r = .returned (.tuple #[.slice (some ⟨w.heap.size, 0, none⟩) 1 1, .bool true]) ∧ w' = w.alloc (.cells #[.string ⟨#[80, 114, 105, 109, 97, 114, 121]⟩] 9) := by
  go_enter Tryz.func30, Tryz.ntmps30
  go_wp2_with fail
  go_ret2
  exact ⟨rfl, rfl⟩

theorem ex_Unary (t : List UInt8) (w : World) : Calls Tryz.prog 30 #[.string (syB .unary), .string (ofL t)] w (ExA (expandS .unary t) w) := by
  show Calls Tryz.prog 30 #[.string ⟨#[85, 110, 97, 114, 121]⟩, .string (ofL t)] w (ExA (expandS .unary t) w)
  by_cases h0 : t = kMinus
  · have hx : expandS .unary t = some [.t [45], .unary] := by rw [expandS, if_pos h0 ] <;> rfl
    rw [hx]
    refine (ex_Unary_0 (ofL t) w (by rw [eqL]; exact decide_eq_true h0)).mono ?_
    rintro r w' ⟨rfl, rfl⟩
    exact ⟨⟨_, _, rfl, own_lit w _ 2 rfl (by unfold maxLen; omega)⟩, (Below.refl w.heap.size w).alloc (Nat.le_refl _) _⟩
  have hx : expandS .unary t = some [.primary] := by rw [expandS, if_neg h0 ] <;> rfl
  rw [hx]
  refine (ex_Unary_1 (ofL t) w (by rw [eqL]; exact decide_eq_false h0)).mono ?_
  rintro r w' ⟨rfl, rfl⟩
  exact ⟨⟨_, _, rfl, own_lit w _ 1 rfl (by unfold maxLen; omega)⟩, (Below.refl w.heap.size w).alloc (Nat.le_refl _) _⟩

set_option maxRecDepth 100000 in
set_option maxHeartbeats 1600000 in
theorem ex_Primary_0 (tb : ByteArray) (w : World) (e0 : (tb.toList == [40]) = true) : Calls Tryz.prog 30 #[.string ⟨#[80, 114, 105, 109, 97, 114, 121]⟩, .string tb] w fun r w' => r = .returned (.tuple #[.slice (some ⟨w.heap.size, 0, none⟩) 3 3, .bool true]) ∧ w' = w.alloc (.cells #[.string ⟨#[40]⟩, .string ⟨#[69, 120, 112, 114]⟩, .string ⟨#[41]⟩] 9) := by
  go_enter Tryz.func30, Tryz.ntmps30
  go_wp2_with fail
  go_ret2
  exact ⟨rfl, rfl⟩

set_option maxRecDepth 100000 in
set_option maxHeartbeats 1600000 in
theorem ex_Primary_1 (tb : ByteArray) (w : World) (e0 : (tb.toList == [40]) = false) (e1 : (tb.toList == [115, 105, 122, 101]) = true) : Calls Tryz.prog 30 #[.string ⟨#[80, 114, 105, 109, 97, 114, 121]⟩, .string tb] w fun r w' => r = .returned (.tuple #[.slice (some ⟨w.heap.size, 0, none⟩) 4 4, .bool true]) ∧ w' = w.alloc (.cells #[.string ⟨#[115, 105, 122, 101]⟩, .string ⟨#[40]⟩, .string ⟨#[69, 120, 112, 114]⟩, .string ⟨#[41]⟩] 9) := by
  go_enter Tryz.func30, Tryz.ntmps30
  go_wp2_with fail
  go_ret2
  exact ⟨rfl, rfl⟩

set_option maxRecDepth 100000 in
set_option maxHeartbeats 1600000 in
theorem ex_Primary_2 (tb : ByteArray) (w : World) (e0 : (tb.toList == [40]) = false) (e1 : (tb.toList == [115, 105, 122, 101]) = false) (e2 : (tb.toList == [123]) = true) : Calls Tryz.prog 30 #[.string ⟨#[80, 114, 105, 109, 97, 114, 121]⟩, .string tb] w fun r w' => r = .returned (.tuple #[.slice (some ⟨w.heap.size, 0, none⟩) 2 2, .bool true]) ∧ w' = w.alloc (.cells #[.string ⟨#[123]⟩, .string ⟨#[83, 99, 111, 112, 101, 115]⟩] 9) := by
  go_enter Tryz.func30, Tryz.ntmps30
  go_wp2_with fail
  go_ret2
  exact ⟨rfl, rfl⟩

set_option maxRecDepth 100000 in
set_option maxHeartbeats 1600000 in
theorem ex_Primary_3 (tb : ByteArray) (w : World) (e0 : (tb.toList == [40]) = false) (e1 : (tb.toList == [115, 105, 122, 101]) = false) (e2 : (tb.toList == [123]) = false) (e3 : (tb.toList == [84, 69, 88, 84]) = true) : Calls Tryz.prog 30 #[.string ⟨#[80, 114, 105, 109, 97, 114, 121]⟩, .string tb] w fun r w' => r = .returned (.tuple #[.slice (some ⟨w.heap.size, 0, none⟩) 1 1, .bool true]) ∧ w' = w.alloc (.cells #[.string tb] 9) := by
  go_enter Tryz.func30, Tryz.ntmps30
  go_wp2_with fail
  go_ret2
  exact ⟨rfl, rfl⟩

set_option maxRecDepth 100000 in
set_option maxHeartbeats 1600000 in
theorem ex_Primary_4 (tb : ByteArray) (w : World) (e0 : (tb.toList == [40]) = false) (e1 : (tb.toList == [115, 105, 122, 101]) = false) (e2 : (tb.toList == [123]) = false) (e3 : (tb.toList == [84, 69, 88, 84]) = false) (e4 : (tb.toList == [78, 65, 77, 69]) = true) : Calls Tryz.prog 30 #[.string ⟨#[80, 114, 105, 109, 97, 114, 121]⟩, .string tb] w fun r w' => r = .returned (.tuple #[.slice (some ⟨w.heap.size, 0, none⟩) 1 1, .bool true]) ∧ w' = w.alloc (.cells #[.string tb] 9) := by
  go_enter Tryz.func30, Tryz.ntmps30
  go_wp2_with fail
  go_ret2
  exact ⟨rfl, rfl⟩

set_option maxRecDepth 100000 in
set_option maxHeartbeats 1600000 in
theorem ex_Primary_5 (tb : ByteArray) (w : World) (e0 : (tb.toList == [40]) = false) (e1 : (tb.toList == [115, 105, 122, 101]) = false) (e2 : (tb.toList == [123]) = false) (e3 : (tb.toList == [84, 69, 88, 84]) = false) (e4 : (tb.toList == [78, 65, 77, 69]) = false) (e5 : (tb.toList == [116, 114, 117, 101]) = true) : Calls Tryz.prog 30 #[.string ⟨#[80, 114, 105, 109, 97, 114, 121]⟩, .string tb] w fun r w' => r = .returned (.tuple #[.slice (some ⟨w.heap.size, 0, none⟩) 1 1, .bool true]) ∧ w' = w.alloc (.cells #[.string tb] 9) := by
  go_enter Tryz.func30, Tryz.ntmps30
  go_wp2_with fail
  go_ret2
  exact ⟨rfl, rfl⟩

set_option maxRecDepth 100000 in
set_option maxHeartbeats 1600000 in
theorem ex_Primary_6 (tb : ByteArray) (w : World) (e0 : (tb.toList == [40]) = false) (e1 : (tb.toList == [115, 105, 122, 101]) = false) (e2 : (tb.toList == [123]) = false) (e3 : (tb.toList == [84, 69, 88, 84]) = false) (e4 : (tb.toList == [78, 65, 77, 69]) = false) (e5 : (tb.toList == [116, 114, 117, 101]) = false) (e6 : (tb.toList == [102, 97, 108, 115, 101]) = true) : Calls Tryz.prog 30 #[.string ⟨#[80, 114, 105, 109, 97, 114, 121]⟩, .string tb] w fun r w' => r = .returned (.tuple #[.slice (some ⟨w.heap.size, 0, none⟩) 1 1, .bool true]) ∧ w' = w.alloc (.cells #[.string tb] 9) := by
  go_enter Tryz.func30, Tryz.ntmps30
  go_wp2_with fail
  go_ret2
  exact ⟨rfl, rfl⟩

set_option maxRecDepth 100000 in
set_option maxHeartbeats 1600000 in
theorem ex_Primary_7 (tb : ByteArray) (w : World) (e0 : (tb.toList == [40]) = false) (e1 : (tb.toList == [115, 105, 122, 101]) = false) (e2 : (tb.toList == [123]) = false) (e3 : (tb.toList == [84, 69, 88, 84]) = false) (e4 : (tb.toList == [78, 65, 77, 69]) = false) (e5 : (tb.toList == [116, 114, 117, 101]) = false) (e6 : (tb.toList == [102, 97, 108, 115, 101]) = false) : Calls Tryz.prog 30 #[.string ⟨#[80, 114, 105, 109, 97, 114, 121]⟩, .string tb] w fun r w' => r = .returned (.tuple #[.slice (some ⟨w.heap.size, 0, none⟩) 1 1, .bool true]) ∧ w' = w.alloc (.cells #[.string ⟨#[78, 85, 77]⟩] 9) := by
  go_enter Tryz.func30, Tryz.ntmps30
  go_wp2_with fail
  go_ret2
  exact ⟨rfl, rfl⟩

theorem ex_Primary (t : List UInt8) (w : World) : Calls Tryz.prog 30 #[.string (syB .primary), .string (ofL t)] w (ExA (expandS .primary t) w) := by
  show Calls Tryz.prog 30 #[.string ⟨#[80, 114, 105, 109, 97, 114, 121]⟩, .string (ofL t)] w (ExA (expandS .primary t) w)
  by_cases h0 : t = kLpar
  · have hx : expandS .primary t = some [.t [40], .expr, .t [41]] := by rw [expandS, if_pos h0 ] <;> rfl
    rw [hx]
    refine (ex_Primary_0 (ofL t) w (by rw [eqL]; exact decide_eq_true h0)).mono ?_
    rintro r w' ⟨rfl, rfl⟩
    exact ⟨⟨_, _, rfl, own_lit w _ 3 rfl (by unfold maxLen; omega)⟩, (Below.refl w.heap.size w).alloc (Nat.le_refl _) _⟩
  by_cases h1 : t = kSize
  · have hx : expandS .primary t = some [.t [115, 105, 122, 101], .t [40], .expr, .t [41]] := by rw [expandS, if_neg h0, if_pos h1 ] <;> rfl
    rw [hx]
    refine (ex_Primary_1 (ofL t) w (by rw [eqL]; exact decide_eq_false h0) (by rw [eqL]; exact decide_eq_true h1)).mono ?_
    rintro r w' ⟨rfl, rfl⟩
    exact ⟨⟨_, _, rfl, own_lit w _ 4 rfl (by unfold maxLen; omega)⟩, (Below.refl w.heap.size w).alloc (Nat.le_refl _) _⟩
  by_cases h2 : t = kLbr
  · have hx : expandS .primary t = some [.t [123], .scopes] := by rw [expandS, if_neg h0, if_neg h1, if_pos h2 ] <;> rfl
    rw [hx]
    refine (ex_Primary_2 (ofL t) w (by rw [eqL]; exact decide_eq_false h0) (by rw [eqL]; exact decide_eq_false h1) (by rw [eqL]; exact decide_eq_true h2)).mono ?_
    rintro r w' ⟨rfl, rfl⟩
    exact ⟨⟨_, _, rfl, own_lit w _ 2 rfl (by unfold maxLen; omega)⟩, (Below.refl w.heap.size w).alloc (Nat.le_refl _) _⟩
  by_cases h3 : t = kTEXT
  · have hx : expandS .primary t = some [.t t] := by rw [expandS, if_neg h0, if_neg h1, if_neg h2, if_pos (.inl h3)]
    rw [hx]
    refine (ex_Primary_3 (ofL t) w (by rw [eqL]; exact decide_eq_false h0) (by rw [eqL]; exact decide_eq_false h1) (by rw [eqL]; exact decide_eq_false h2) (by rw [eqL]; exact decide_eq_true h3)).mono ?_
    rintro r w' ⟨rfl, rfl⟩
    exact ⟨⟨_, _, rfl, own_lit w _ 1 rfl (by unfold maxLen; omega)⟩, (Below.refl w.heap.size w).alloc (Nat.le_refl _) _⟩
  by_cases h4 : t = kNAME
  · have hx : expandS .primary t = some [.t t] := by rw [expandS, if_neg h0, if_neg h1, if_neg h2, if_pos (.inr (.inl h4))]
    rw [hx]
    refine (ex_Primary_4 (ofL t) w (by rw [eqL]; exact decide_eq_false h0) (by rw [eqL]; exact decide_eq_false h1) (by rw [eqL]; exact decide_eq_false h2) (by rw [eqL]; exact decide_eq_false h3) (by rw [eqL]; exact decide_eq_true h4)).mono ?_
    rintro r w' ⟨rfl, rfl⟩
    exact ⟨⟨_, _, rfl, own_lit w _ 1 rfl (by unfold maxLen; omega)⟩, (Below.refl w.heap.size w).alloc (Nat.le_refl _) _⟩
  by_cases h5 : t = kTrue
  · have hx : expandS .primary t = some [.t t] := by rw [expandS, if_neg h0, if_neg h1, if_neg h2, if_pos (.inr (.inr (.inl h5)))]
    rw [hx]
    refine (ex_Primary_5 (ofL t) w (by rw [eqL]; exact decide_eq_false h0) (by rw [eqL]; exact decide_eq_false h1) (by rw [eqL]; exact decide_eq_false h2) (by rw [eqL]; exact decide_eq_false h3) (by rw [eqL]; exact decide_eq_false h4) (by rw [eqL]; exact decide_eq_true h5)).mono ?_
    rintro r w' ⟨rfl, rfl⟩
    exact ⟨⟨_, _, rfl, own_lit w _ 1 rfl (by unfold maxLen; omega)⟩, (Below.refl w.heap.size w).alloc (Nat.le_refl _) _⟩
  by_cases h6 : t = kFalse
  · have hx : expandS .primary t = some [.t t] := by rw [expandS, if_neg h0, if_neg h1, if_neg h2, if_pos (.inr (.inr (.inr h6)))]
    rw [hx]
    refine (ex_Primary_6 (ofL t) w (by rw [eqL]; exact decide_eq_false h0) (by rw [eqL]; exact decide_eq_false h1) (by rw [eqL]; exact decide_eq_false h2) (by rw [eqL]; exact decide_eq_false h3) (by rw [eqL]; exact decide_eq_false h4) (by rw [eqL]; exact decide_eq_false h5) (by rw [eqL]; exact decide_eq_true h6)).mono ?_
    rintro r w' ⟨rfl, rfl⟩
    exact ⟨⟨_, _, rfl, own_lit w _ 1 rfl (by unfold maxLen; omega)⟩, (Below.refl w.heap.size w).alloc (Nat.le_refl _) _⟩
  have hx : expandS .primary t = some [.t [78, 85, 77]] := by rw [expandS, if_neg h0, if_neg h1, if_neg h2, if_neg (fun h => by rcases h with h | h | h | h <;> first | exact h3 h | exact h4 h | exact h5 h | exact h6 h) ] <;> rfl
  rw [hx]
  refine (ex_Primary_7 (ofL t) w (by rw [eqL]; exact decide_eq_false h0) (by rw [eqL]; exact decide_eq_false h1) (by rw [eqL]; exact decide_eq_false h2) (by rw [eqL]; exact decide_eq_false h3) (by rw [eqL]; exact decide_eq_false h4) (by rw [eqL]; exact decide_eq_false h5) (by rw [eqL]; exact decide_eq_false h6)).mono ?_
  rintro r w' ⟨rfl, rfl⟩
  exact ⟨⟨_, _, rfl, own_lit w _ 1 rfl (by unfold maxLen; omega)⟩, (Below.refl w.heap.size w).alloc (Nat.le_refl _) _⟩

set_option maxRecDepth 100000 in
set_option maxHeartbeats 1600000 in
theorem ex_Scopes_0 (tb : ByteArray) (w : World) (e0 : (tb.toList == [125]) = true) : Calls Tryz.prog 30 #[.string ⟨#[83, 99, 111, 112, 101, 115]⟩, .string tb] w fun r w' => r = .returned (.tuple #[.slice (some ⟨w.heap.size, 0, none⟩) 1 1, .bool true]) ∧ w' = w.alloc (.cells #[.string ⟨#[125]⟩] 9) := by
  go_enter Tryz.func30, Tryz.ntmps30
  go_wp2_with fail
  go_ret2
  exact ⟨rfl, rfl⟩

set_option maxRecDepth 100000 in
set_option maxHeartbeats 1600000 in
theorem ex_Scopes_1 (tb : ByteArray) (w : World) (e0 : (tb.toList == [125]) = false) : Calls Tryz.prog 30 #[.string ⟨#[83, 99, 111, 112, 101, 115]⟩, .string tb] w fun r w' => r = .returned (.tuple #[.slice (some ⟨w.heap.size, 0, none⟩) 2 2, .bool true]) ∧ w' = w.alloc (.cells #[.string ⟨#[83, 67, 79, 80, 69]⟩, .string ⟨#[83, 99, 111, 112, 101, 115, 77, 111, 114, 101]⟩] 9) := by
  go_enter Tryz.func30, Tryz.ntmps30
  go_wp2_with fail
  go_ret2
  exact ⟨rfl, rfl⟩

theorem ex_Scopes (t : List UInt8) (w : World) : Calls Tryz.prog 30 #[.string (syB .scopes), .string (ofL t)] w (ExA (expandS .scopes t) w) := by
  show Calls Tryz.prog 30 #[.string ⟨#[83, 99, 111, 112, 101, 115]⟩, .string (ofL t)] w (ExA (expandS .scopes t) w)
  by_cases h0 : t = kRbr
  · have hx : expandS .scopes t = some [.t [125]] := by rw [expandS, if_pos h0 ] <;> rfl
    rw [hx]
    refine (ex_Scopes_0 (ofL t) w (by rw [eqL]; exact decide_eq_true h0)).mono ?_
    rintro r w' ⟨rfl, rfl⟩
    exact ⟨⟨_, _, rfl, own_lit w _ 1 rfl (by unfold maxLen; omega)⟩, (Below.refl w.heap.size w).alloc (Nat.le_refl _) _⟩
  have hx : expandS .scopes t = some [.scope, .scopesMore] := by rw [expandS, if_neg h0 ] <;> rfl
  rw [hx]
  refine (ex_Scopes_1 (ofL t) w (by rw [eqL]; exact decide_eq_false h0)).mono ?_
  rintro r w' ⟨rfl, rfl⟩
  exact ⟨⟨_, _, rfl, own_lit w _ 2 rfl (by unfold maxLen; omega)⟩, (Below.refl w.heap.size w).alloc (Nat.le_refl _) _⟩

set_option maxRecDepth 100000 in
set_option maxHeartbeats 1600000 in
theorem ex_ScopesMore_0 (tb : ByteArray) (w : World) (e0 : (tb.toList == [44]) = true) : Calls Tryz.prog 30 #[.string ⟨#[83, 99, 111, 112, 101, 115, 77, 111, 114, 101]⟩, .string tb] w fun r w' => r = .returned (.tuple #[.slice (some ⟨w.heap.size, 0, none⟩) 3 3, .bool true]) ∧ w' = w.alloc (.cells #[.string ⟨#[44]⟩, .string ⟨#[83, 67, 79, 80, 69]⟩, .string ⟨#[83, 99, 111, 112, 101, 115, 77, 111, 114, 101]⟩] 9) := by
  go_enter Tryz.func30, Tryz.ntmps30
  go_wp2_with fail
  go_ret2
  exact ⟨rfl, rfl⟩

set_option maxRecDepth 100000 in
set_option maxHeartbeats 1600000 in
theorem ex_ScopesMore_1 (tb : ByteArray) (w : World) (e0 : (tb.toList == [44]) = false) : Calls Tryz.prog 30 #[.string ⟨#[83, 99, 111, 112, 101, 115, 77, 111, 114, 101]⟩, .string tb] w fun r w' => r = .returned (.tuple #[.slice (some ⟨w.heap.size, 0, none⟩) 1 1, .bool true]) ∧ w' = w.alloc (.cells #[.string ⟨#[125]⟩] 9) := by
  go_enter Tryz.func30, Tryz.ntmps30
  go_wp2_with fail
  go_ret2
  exact ⟨rfl, rfl⟩

theorem ex_ScopesMore (t : List UInt8) (w : World) : Calls Tryz.prog 30 #[.string (syB .scopesMore), .string (ofL t)] w (ExA (expandS .scopesMore t) w) := by
  show Calls Tryz.prog 30 #[.string ⟨#[83, 99, 111, 112, 101, 115, 77, 111, 114, 101]⟩, .string (ofL t)] w (ExA (expandS .scopesMore t) w)
  by_cases h0 : t = kComma
  · have hx : expandS .scopesMore t = some [.t [44], .scope, .scopesMore] := by rw [expandS, if_pos h0 ] <;> rfl
    rw [hx]
    refine (ex_ScopesMore_0 (ofL t) w (by rw [eqL]; exact decide_eq_true h0)).mono ?_
    rintro r w' ⟨rfl, rfl⟩
    exact ⟨⟨_, _, rfl, own_lit w _ 3 rfl (by unfold maxLen; omega)⟩, (Below.refl w.heap.size w).alloc (Nat.le_refl _) _⟩
  have hx : expandS .scopesMore t = some [.t [125]] := by rw [expandS, if_neg h0 ] <;> rfl
  rw [hx]
  refine (ex_ScopesMore_1 (ofL t) w (by rw [eqL]; exact decide_eq_false h0)).mono ?_
  rintro r w' ⟨rfl, rfl⟩
  exact ⟨⟨_, _, rfl, own_lit w _ 1 rfl (by unfold maxLen; omega)⟩, (Below.refl w.heap.size w).alloc (Nat.le_refl _) _⟩

set_option maxHeartbeats 1600000 in
theorem l2in_any (a : Option Addr) (n c : Nat) (ss : List ByteArray) (s : ByteArray) (w : World) (h : Strs w a n c ss) :
    Calls Tryz.prog 51 #[.string s, .slice a n c] w fun e w' => e = .returned (.bool (hasB ss s)) ∧ w' = w := by
  go_enter Tryz.func51, Tryz.ntmps51
  go_wp2_with fail
  refine (l1has_any a n c ss s w h).mono ?_
  rintro e w' ⟨rfl, hw⟩
  rw [hw]
  dsimp only
  go_wp2_with fail
  go_ret
  exact ⟨rfl, rfl⟩

theorem hasB_ops (k : Nat) (t : List UInt8) : hasB ((opsL k).map ofL) (ofL t) = decide (t ∈ opsL k) := by
  by_cases h : t ∈ opsL k
  · rw [decide_eq_true h, hasB_iff]
    exact List.mem_map.2 ⟨t, h, rfl⟩
  · rw [decide_eq_false h, Bool.eq_false_iff, Ne, hasB_iff]
    intro hm
    obtain ⟨x, hx, he⟩ := List.mem_map.1 hm
    exact h (by rw [← ofL_injG he]; exact hx)

set_option maxHeartbeats 1600000 in
theorem l2compare_any (w : World) : Calls Tryz.prog 52 #[] w fun r w' => r = .returned (.slice (some ⟨w.heap.size, 0, none⟩) 6 6) ∧ w' = w.alloc (.cells #[.string ⟨#[61, 61]⟩, .string ⟨#[33, 61]⟩, .string ⟨#[60]⟩, .string ⟨#[60, 61]⟩, .string ⟨#[105, 110]⟩, .string ⟨#[119, 105, 116, 104, 105, 110]⟩] 9) := by
  go_enter Tryz.func52, Tryz.ntmps52
  go_wp2_with fail
  go_ret
  exact ⟨rfl, rfl⟩

theorem l2compare_strs (w : World) : Strs (w.alloc (.cells #[.string ⟨#[61, 61]⟩, .string ⟨#[33, 61]⟩, .string ⟨#[60]⟩, .string ⟨#[60, 61]⟩, .string ⟨#[105, 110]⟩, .string ⟨#[119, 105, 116, 104, 105, 110]⟩] 9)) (some ⟨w.heap.size, 0, none⟩) 6 6 ((opsL 4).map ofL) :=
  Strs.of_owns (own_lit w _ 6 rfl (by unfold maxLen; omega)) (fun j hj => by
    have : ∀ j, j < 6 → (nth ((opsL 4).map ofL) j).size ≤ 32 := by decide
    have := this j hj
    unfold maxLen
    omega)

set_option maxRecDepth 100000 in
set_option maxHeartbeats 1600000 in
theorem ex_Compared (t : List UInt8) (w : World) : Calls Tryz.prog 30 #[.string (syB .compared), .string (ofL t)] w (ExA (expandS .compared t) w) := by
  show Calls Tryz.prog 30 #[.string ⟨#[67, 111, 109, 112, 97, 114, 101, 100]⟩, .string (ofL t)] w (ExA (expandS .compared t) w)
  have HB := hide (hasB_ops 4 t)
  have B0 := (Below.refl w.heap.size w).alloc (Nat.le_refl _) (.cells #[.string ⟨#[61, 61]⟩, .string ⟨#[33, 61]⟩, .string ⟨#[60]⟩, .string ⟨#[60, 61]⟩, .string ⟨#[105, 110]⟩, .string ⟨#[119, 105, 116, 104, 105, 110]⟩] 9)
  by_cases h : t ∈ opsL 4
  · have hx : expandS .compared t = some [.t t, .sum] := if_pos h
    rw [hx]
    have HD := hide (decide_eq_true h)
    clear h hx
    go_enter Tryz.func30, Tryz.ntmps30
    go_wp2_with fail
    refine (l2compare_any w).mono ?_
    rintro r w1 ⟨rfl, hw1⟩
    rw [hw1]
    clear hw1
    dsimp only
    go_wp2_with fail
    refine (l2in_any _ _ _ _ _ _ (l2compare_strs w)).mono ?_
    rintro r w1 ⟨rfl, hw1⟩
    rw [hw1, unhide HB, unhide HD]
    clear hw1
    dsimp only
    go_wp2_with fail
    go_ret2
    have O := own_lit (w.alloc (.cells #[.string ⟨#[61, 61]⟩, .string ⟨#[33, 61]⟩, .string ⟨#[60]⟩, .string ⟨#[60, 61]⟩, .string ⟨#[105, 110]⟩, .string ⟨#[119, 105, 116, 104, 105, 110]⟩] 9)) #[.string (ofL t), .string ⟨#[83, 117, 109]⟩] 2 rfl (by unfold maxLen; omega)
    have O2 := owns_lowE (B' := w.heap.size) O (by simp)
    simp only [World.size_alloc] at O2
    exact ⟨⟨_, _, rfl, O2⟩, B0.alloc B0.size _⟩
  · have hx : expandS .compared t = some [] := if_neg h
    rw [hx]
    have HD := hide (decide_eq_false h)
    clear h hx
    go_enter Tryz.func30, Tryz.ntmps30
    go_wp2_with fail
    refine (l2compare_any w).mono ?_
    rintro r w1 ⟨rfl, hw1⟩
    rw [hw1]
    clear hw1
    dsimp only
    go_wp2_with fail
    refine (l2in_any _ _ _ _ _ _ (l2compare_strs w)).mono ?_
    rintro r w1 ⟨rfl, hw1⟩
    rw [hw1, unhide HB, unhide HD]
    clear hw1
    dsimp only
    go_wp2_with fail
    go_ret2
    exact ⟨⟨none, 0, rfl, World.ownsRow_nil _ _ _ _⟩, B0⟩

set_option maxHeartbeats 1600000 in
theorem l2sums_any (w : World) : Calls Tryz.prog 53 #[] w fun r w' => r = .returned (.slice (some ⟨w.heap.size, 0, none⟩) 4 4) ∧ w' = w.alloc (.cells #[.string ⟨#[43]⟩, .string ⟨#[45]⟩, .string ⟨#[124]⟩, .string ⟨#[92]⟩] 9) := by
  go_enter Tryz.func53, Tryz.ntmps53
  go_wp2_with fail
  go_ret
  exact ⟨rfl, rfl⟩

theorem l2sums_strs (w : World) : Strs (w.alloc (.cells #[.string ⟨#[43]⟩, .string ⟨#[45]⟩, .string ⟨#[124]⟩, .string ⟨#[92]⟩] 9)) (some ⟨w.heap.size, 0, none⟩) 4 4 ((opsL 5).map ofL) :=
  Strs.of_owns (own_lit w _ 4 rfl (by unfold maxLen; omega)) (fun j hj => by
    have : ∀ j, j < 4 → (nth ((opsL 5).map ofL) j).size ≤ 32 := by decide
    have := this j hj
    unfold maxLen
    omega)

set_option maxRecDepth 100000 in
set_option maxHeartbeats 1600000 in
theorem ex_SumMore (t : List UInt8) (w : World) : Calls Tryz.prog 30 #[.string (syB .sumMore), .string (ofL t)] w (ExA (expandS .sumMore t) w) := by
  show Calls Tryz.prog 30 #[.string ⟨#[83, 117, 109, 77, 111, 114, 101]⟩, .string (ofL t)] w (ExA (expandS .sumMore t) w)
  have HB := hide (hasB_ops 5 t)
  have B0 := (Below.refl w.heap.size w).alloc (Nat.le_refl _) (.cells #[.string ⟨#[43]⟩, .string ⟨#[45]⟩, .string ⟨#[124]⟩, .string ⟨#[92]⟩] 9)
  by_cases h : t ∈ opsL 5
  · have hx : expandS .sumMore t = some [.t t, .term, .sumMore] := if_pos h
    rw [hx]
    have HD := hide (decide_eq_true h)
    clear h hx
    go_enter Tryz.func30, Tryz.ntmps30
    go_wp2_with fail
    refine (l2sums_any w).mono ?_
    rintro r w1 ⟨rfl, hw1⟩
    rw [hw1]
    clear hw1
    dsimp only
    go_wp2_with fail
    refine (l2in_any _ _ _ _ _ _ (l2sums_strs w)).mono ?_
    rintro r w1 ⟨rfl, hw1⟩
    rw [hw1, unhide HB, unhide HD]
    clear hw1
    dsimp only
    go_wp2_with fail
    go_ret2
    have O := own_lit (w.alloc (.cells #[.string ⟨#[43]⟩, .string ⟨#[45]⟩, .string ⟨#[124]⟩, .string ⟨#[92]⟩] 9)) #[.string (ofL t), .string ⟨#[84, 101, 114, 109]⟩, .string ⟨#[83, 117, 109, 77, 111, 114, 101]⟩] 3 rfl (by unfold maxLen; omega)
    have O2 := owns_lowE (B' := w.heap.size) O (by simp)
    simp only [World.size_alloc] at O2
    exact ⟨⟨_, _, rfl, O2⟩, B0.alloc B0.size _⟩
  · have hx : expandS .sumMore t = some [] := if_neg h
    rw [hx]
    have HD := hide (decide_eq_false h)
    clear h hx
    go_enter Tryz.func30, Tryz.ntmps30
    go_wp2_with fail
    refine (l2sums_any w).mono ?_
    rintro r w1 ⟨rfl, hw1⟩
    rw [hw1]
    clear hw1
    dsimp only
    go_wp2_with fail
    refine (l2in_any _ _ _ _ _ _ (l2sums_strs w)).mono ?_
    rintro r w1 ⟨rfl, hw1⟩
    rw [hw1, unhide HB, unhide HD]
    clear hw1
    dsimp only
    go_wp2_with fail
    go_ret2
    exact ⟨⟨none, 0, rfl, World.ownsRow_nil _ _ _ _⟩, B0⟩

set_option maxHeartbeats 1600000 in
theorem l2terms_any (w : World) : Calls Tryz.prog 54 #[] w fun r w' => r = .returned (.slice (some ⟨w.heap.size, 0, none⟩) 4 4) ∧ w' = w.alloc (.cells #[.string ⟨#[42]⟩, .string ⟨#[47]⟩, .string ⟨#[37]⟩, .string ⟨#[38]⟩] 9) := by
  go_enter Tryz.func54, Tryz.ntmps54
  go_wp2_with fail
  go_ret
  exact ⟨rfl, rfl⟩

theorem l2terms_strs (w : World) : Strs (w.alloc (.cells #[.string ⟨#[42]⟩, .string ⟨#[47]⟩, .string ⟨#[37]⟩, .string ⟨#[38]⟩] 9)) (some ⟨w.heap.size, 0, none⟩) 4 4 ((opsL 6).map ofL) :=
  Strs.of_owns (own_lit w _ 4 rfl (by unfold maxLen; omega)) (fun j hj => by
    have : ∀ j, j < 4 → (nth ((opsL 6).map ofL) j).size ≤ 32 := by decide
    have := this j hj
    unfold maxLen
    omega)

set_option maxRecDepth 100000 in
set_option maxHeartbeats 1600000 in
theorem ex_TermMore (t : List UInt8) (w : World) : Calls Tryz.prog 30 #[.string (syB .termMore), .string (ofL t)] w (ExA (expandS .termMore t) w) := by
  show Calls Tryz.prog 30 #[.string ⟨#[84, 101, 114, 109, 77, 111, 114, 101]⟩, .string (ofL t)] w (ExA (expandS .termMore t) w)
  have HB := hide (hasB_ops 6 t)
  have B0 := (Below.refl w.heap.size w).alloc (Nat.le_refl _) (.cells #[.string ⟨#[42]⟩, .string ⟨#[47]⟩, .string ⟨#[37]⟩, .string ⟨#[38]⟩] 9)
  by_cases h : t ∈ opsL 6
  · have hx : expandS .termMore t = some [.t t, .unary, .termMore] := if_pos h
    rw [hx]
    have HD := hide (decide_eq_true h)
    clear h hx
    go_enter Tryz.func30, Tryz.ntmps30
    go_wp2_with fail
    refine (l2terms_any w).mono ?_
    rintro r w1 ⟨rfl, hw1⟩
    rw [hw1]
    clear hw1
    dsimp only
    go_wp2_with fail
    refine (l2in_any _ _ _ _ _ _ (l2terms_strs w)).mono ?_
    rintro r w1 ⟨rfl, hw1⟩
    rw [hw1, unhide HB, unhide HD]
    clear hw1
    dsimp only
    go_wp2_with fail
    go_ret2
    have O := own_lit (w.alloc (.cells #[.string ⟨#[42]⟩, .string ⟨#[47]⟩, .string ⟨#[37]⟩, .string ⟨#[38]⟩] 9)) #[.string (ofL t), .string ⟨#[85, 110, 97, 114, 121]⟩, .string ⟨#[84, 101, 114, 109, 77, 111, 114, 101]⟩] 3 rfl (by unfold maxLen; omega)
    have O2 := owns_lowE (B' := w.heap.size) O (by simp)
    simp only [World.size_alloc] at O2
    exact ⟨⟨_, _, rfl, O2⟩, B0.alloc B0.size _⟩
  · have hx : expandS .termMore t = some [] := if_neg h
    rw [hx]
    have HD := hide (decide_eq_false h)
    clear h hx
    go_enter Tryz.func30, Tryz.ntmps30
    go_wp2_with fail
    refine (l2terms_any w).mono ?_
    rintro r w1 ⟨rfl, hw1⟩
    rw [hw1]
    clear hw1
    dsimp only
    go_wp2_with fail
    refine (l2in_any _ _ _ _ _ _ (l2terms_strs w)).mono ?_
    rintro r w1 ⟨rfl, hw1⟩
    rw [hw1, unhide HB, unhide HD]
    clear hw1
    dsimp only
    go_wp2_with fail
    go_ret2
    exact ⟨⟨none, 0, rfl, World.ownsRow_nil _ _ _ _⟩, B0⟩

set_option maxRecDepth 100000 in
set_option maxHeartbeats 1600000 in
theorem ex_none (sb tb : ByteArray) (w : World) (e0 : (sb.toList == [80, 111, 108, 105, 99, 121]) = false) (e1 : (sb.toList == [68, 101, 99, 105, 115, 105, 111, 110]) = false) (e2 : (sb.toList == [69, 120, 112, 114]) = false) (e3 : (sb.toList == [79, 114, 77, 111, 114, 101]) = false) (e4 : (sb.toList == [65, 110, 100]) = false) (e5 : (sb.toList == [65, 110, 100, 77, 111, 114, 101]) = false) (e6 : (sb.toList == [78, 111, 116]) = false) (e7 : (sb.toList == [67, 111, 109, 112, 97, 114, 101, 100]) = false) (e8 : (sb.toList == [83, 117, 109]) = false) (e9 : (sb.toList == [83, 117, 109, 77, 111, 114, 101]) = false) (e10 : (sb.toList == [84, 101, 114, 109]) = false) (e11 : (sb.toList == [84, 101, 114, 109, 77, 111, 114, 101]) = false) (e12 : (sb.toList == [85, 110, 97, 114, 121]) = false) (e13 : (sb.toList == [80, 114, 105, 109, 97, 114, 121]) = false) (e14 : (sb.toList == [83, 99, 111, 112, 101, 115]) = false) (e15 : (sb.toList == [83, 99, 111, 112, 101, 115, 77, 111, 114, 101]) = false) : Calls Tryz.prog 30 #[.string sb, .string tb] w fun r w' => r = .returned (.tuple #[.slice none 0 0, .bool false]) ∧ w' = w := by
  go_enter Tryz.func30, Tryz.ntmps30
  go_wp2_with fail
  go_ret2
  exact ⟨rfl, rfl⟩

theorem ex_term (s t : List UInt8) (hs : s ∉ [[80, 111, 108, 105, 99, 121], [68, 101, 99, 105, 115, 105, 111, 110], [69, 120, 112, 114], [79, 114, 77, 111, 114, 101], [65, 110, 100], [65, 110, 100, 77, 111, 114, 101], [78, 111, 116], [67, 111, 109, 112, 97, 114, 101, 100], [83, 117, 109], [83, 117, 109, 77, 111, 114, 101], [84, 101, 114, 109], [84, 101, 114, 109, 77, 111, 114, 101], [85, 110, 97, 114, 121], [80, 114, 105, 109, 97, 114, 121], [83, 99, 111, 112, 101, 115], [83, 99, 111, 112, 101, 115, 77, 111, 114, 101]]) (w : World) : Calls Tryz.prog 30 #[.string (ofL s), .string (ofL t)] w (ExA none w) := by
  have key : ∀ u, u ∈ [[80, 111, 108, 105, 99, 121], [68, 101, 99, 105, 115, 105, 111, 110], [69, 120, 112, 114], [79, 114, 77, 111, 114, 101], [65, 110, 100], [65, 110, 100, 77, 111, 114, 101], [78, 111, 116], [67, 111, 109, 112, 97, 114, 101, 100], [83, 117, 109], [83, 117, 109, 77, 111, 114, 101], [84, 101, 114, 109], [84, 101, 114, 109, 77, 111, 114, 101], [85, 110, 97, 114, 121], [80, 114, 105, 109, 97, 114, 121], [83, 99, 111, 112, 101, 115], [83, 99, 111, 112, 101, 115, 77, 111, 114, 101]] → ((ofL s).toList == u) = false := fun u hu => by rw [eqL]; exact decide_eq_false (fun e => hs (by rw [e]; exact hu))
  refine (ex_none (ofL s) (ofL t) w (key _ (by decide)) (key _ (by decide)) (key _ (by decide)) (key _ (by decide)) (key _ (by decide)) (key _ (by decide)) (key _ (by decide)) (key _ (by decide)) (key _ (by decide)) (key _ (by decide)) (key _ (by decide)) (key _ (by decide)) (key _ (by decide)) (key _ (by decide)) (key _ (by decide)) (key _ (by decide))).mono ?_
  rintro r w' ⟨rfl, rfl⟩
  exact ⟨rfl, Below.refl _ _⟩

theorem expand_any (x : Sy) (hx : okY x) (t : List UInt8) (w : World) : Calls Tryz.prog 30 #[.string (syB x), .string (ofL t)] w (ExA (expandS x t) w) := by
  cases x with
  | policy => exact ex_Policy t w
  | decision => exact ex_Decision t w
  | expr => exact ex_Expr t w
  | orMore => exact ex_OrMore t w
  | and_ => exact ex_And t w
  | andMore => exact ex_AndMore t w
  | not_ => exact ex_Not t w
  | compared => exact ex_Compared t w
  | sum => exact ex_Sum t w
  | sumMore => exact ex_SumMore t w
  | term => exact ex_Term t w
  | termMore => exact ex_TermMore t w
  | unary => exact ex_Unary t w
  | primary => exact ex_Primary t w
  | scopes => exact ex_Scopes t w
  | scopesMore => exact ex_ScopesMore t w
  | scope => exact ex_term _ t (by decide) w
  | t s =>
    refine ex_term s t ?_ w
    have key : ∀ u ∈ allW ++ [kNUM, kTEXT, kNAME], u ∉ [[80, 111, 108, 105, 99, 121], [68, 101, 99, 105, 115, 105, 111, 110], [69, 120, 112, 114], [79, 114, 77, 111, 114, 101], [65, 110, 100], [65, 110, 100, 77, 111, 114, 101], [78, 111, 116], [67, 111, 109, 112, 97, 114, 101, 100], [83, 117, 109], [83, 117, 109, 77, 111, 114, 101], [84, 101, 114, 109], [84, 101, 114, 109, 77, 111, 114, 101], [85, 110, 97, 114, 121], [80, 114, 105, 109, 97, 114, 121], [83, 99, 111, 112, 101, 115], [83, 99, 111, 112, 101, 115, 77, 111, 114, 101]] := by decide
    refine key s ?_
    rcases hx with h | h | h | h
    · exact List.mem_append_left _ h
    · rw [h]; decide
    · rw [h]; decide
    · rw [h]; decide

end Go.Proofs.YtcehablmloleaaaGreatDoor

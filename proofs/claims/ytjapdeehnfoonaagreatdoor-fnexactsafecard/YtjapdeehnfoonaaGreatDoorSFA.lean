/-
  The program's look at a tree: can it fail? Own work.
-/
import Derived.Test.YtjapdeehnfoonaaGreatDoorMWH
import Derived.Test.YtjapdeehnfoonaaGreatDoorQK
import Derived.Test.YtjapdeehnfoonaaGreatDoorMWO
namespace Go.Proofs.YtjapdeehnfoonaaGreatDoor
open Go.RowKit
set_option linter.unusedVariables false

/-- no error can come of it -/
def safeE : Ex → Bool
  | .un _ op k => !decide (op = 8) && safeE k
  | .bin _ op l r => !decide (11 ≤ op ∧ op ≤ 16) && (safeE l && safeE r)
  | .ite _ c t e => safeE c && (safeE t && safeE e)
  | _ => true

theorem IsT.safe_one {N : List Nd} {i : Nat} {e : Ex} (t : IsT N i e) : ∀ {f : Ex}, IsT N i f → safeE e = safeE f := by
  induction t with
  | int h ho hk => intro f u; rcases u.inv h with ⟨o, r⟩ | ⟨o, r⟩ | ⟨o, r⟩ | ⟨o, r⟩ | ⟨o, r⟩ | ⟨o, r⟩ | ⟨o, r⟩ | ⟨o, r⟩ | ⟨o, r⟩ | ⟨o, r⟩ <;> first | omega | (subst r; rfl)
  | text h ho hk => intro f u; rcases u.inv h with ⟨o, r⟩ | ⟨o, r⟩ | ⟨o, r⟩ | ⟨o, r⟩ | ⟨o, r⟩ | ⟨o, r⟩ | ⟨o, r⟩ | ⟨o, r⟩ | ⟨o, r⟩ | ⟨o, r⟩ <;> first | omega | (subst r; rfl)
  | bool h ho hk => intro f u; rcases u.inv h with ⟨o, r⟩ | ⟨o, r⟩ | ⟨o, r⟩ | ⟨o, r⟩ | ⟨o, r⟩ | ⟨o, r⟩ | ⟨o, r⟩ | ⟨o, r⟩ | ⟨o, r⟩ | ⟨o, r⟩ <;> first | omega | (subst r; rfl)
  | name h ho hk => intro f u; rcases u.inv h with ⟨o, r⟩ | ⟨o, r⟩ | ⟨o, r⟩ | ⟨o, r⟩ | ⟨o, r⟩ | ⟨o, r⟩ | ⟨o, r⟩ | ⟨o, r⟩ | ⟨o, r⟩ | ⟨o, r⟩ <;> first | omega | (subst r; rfl)
  | attr h ho hk => intro f u; rcases u.inv h with ⟨o, r⟩ | ⟨o, r⟩ | ⟨o, r⟩ | ⟨o, r⟩ | ⟨o, r⟩ | ⟨o, r⟩ | ⟨o, r⟩ | ⟨o, r⟩ | ⟨o, r⟩ | ⟨o, r⟩ <;> first | omega | (subst r; rfl)
  | lett h ho hk => intro f u; rcases u.inv h with ⟨o, r⟩ | ⟨o, r⟩ | ⟨o, r⟩ | ⟨o, r⟩ | ⟨o, r⟩ | ⟨o, r⟩ | ⟨o, r⟩ | ⟨o, r⟩ | ⟨o, r⟩ | ⟨o, r⟩ <;> first | omega | (subst r; rfl)
  | set h ho hk a n c => intro f u; rcases u.inv h with ⟨o, r⟩ | ⟨o, r⟩ | ⟨o, r⟩ | ⟨o, r⟩ | ⟨o, r⟩ | ⟨o, r⟩ | ⟨o, r⟩ | ⟨o, r⟩ | ⟨o, r⟩ | ⟨o, r⟩ <;> first | omega | (obtain ⟨_, _, _, r⟩ := r; subst r; rfl)
  | un h ho hk hi t ih =>
    intro f u
    rcases u.inv h with ⟨o, r⟩ | ⟨o, r⟩ | ⟨o, r⟩ | ⟨o, r⟩ | ⟨o, r⟩ | ⟨o, r⟩ | ⟨o, r⟩ | ⟨o, k', e', hk', t', r⟩ | ⟨o, r⟩ | ⟨o, r⟩ <;> first | omega | skip
    subst r
    rw [hk] at hk'
    obtain rfl := Int.ofNat.inj (List.cons.inj hk').1
    simp only [safeE, ih t']
  | bin h ho hk hi t u ih1 ih2 =>
    intro f v
    rcases v.inv h with ⟨o, r⟩ | ⟨o, r⟩ | ⟨o, r⟩ | ⟨o, r⟩ | ⟨o, r⟩ | ⟨o, r⟩ | ⟨o, r⟩ | ⟨o, r⟩ | ⟨o, k', l', e', g', hk', t', u', r⟩ | ⟨o, r⟩ <;> first | omega | skip
    subst r
    rw [hk] at hk'
    simp only [List.cons.injEq, and_true, Int.natCast_inj] at hk'
    obtain ⟨rfl, rfl⟩ := hk'
    simp only [safeE, ih1 t', ih2 u']
  | ite h ho hk hi t u v ih1 ih2 ih3 =>
    intro f z
    rcases z.inv h with ⟨o, r⟩ | ⟨o, r⟩ | ⟨o, r⟩ | ⟨o, r⟩ | ⟨o, r⟩ | ⟨o, r⟩ | ⟨o, r⟩ | ⟨o, r⟩ | ⟨o, r⟩ | ⟨o, k', l', m', e', g', h', hk', t', u', v', r⟩ <;> first | omega | skip
    subst r
    rw [hk] at hk'
    simp only [List.cons.injEq, and_true, Int.natCast_inj] at hk'
    obtain ⟨rfl, rfl, rfl⟩ := hk'
    simp only [safeE, ih1 t', ih2 u', ih3 v']

set_option maxRecDepth 100000 in
theorem mayFail_any (op : Int) (w : World) : Calls Tryz.prog 37 #[.int .i64 op] w fun r w' => r = .returned (.bool (decide (11 ≤ op ∧ op ≤ 16))) ∧ w' = w := by
  by_cases h : 11 ≤ op ∧ op ≤ 16
  · rcases (show op = 11 ∨ op = 12 ∨ op = 13 ∨ op = 14 ∨ op = 15 ∨ op = 16 by omega) with rfl | rfl | rfl | rfl | rfl | rfl
    all_goals
      go_enter Tryz.func37, Tryz.ntmps37
      go_wp2_with fail
      go_ret
      exact ⟨rfl, rfl⟩
  · have HX := hide (decide_eq_false h)
    have e11 : (op == 11) = false := beq_eq_false_iff_ne.2 (by omega)
    have e12 : (op == 12) = false := beq_eq_false_iff_ne.2 (by omega)
    have e13 : (op == 13) = false := beq_eq_false_iff_ne.2 (by omega)
    have e14 : (op == 14) = false := beq_eq_false_iff_ne.2 (by omega)
    have e15 : (op == 15) = false := beq_eq_false_iff_ne.2 (by omega)
    have e16 : (op == 16) = false := beq_eq_false_iff_ne.2 (by omega)
    clear h
    go_enter Tryz.func37, Tryz.ntmps37
    go_wp2_with fail
    go_ret
    exact ⟨by rw [unhide HX]; rfl, rfl⟩

/-- what is said of a tree -/
def SfAns (b : Bool) (w : World) (r : Ending) (w' : World) : Prop := r = .returned (.bool b) ∧ Below w.heap.size w w'

set_option maxRecDepth 100000 in
theorem safe_int (i n : Int) (w : World) : Calls Tryz.prog 19 #[.iface 123 (.agg #[.int .i64 i, .int .i64 n])] w (SfAns true w) := by
  have hk := kids_int i n
  have a0 := ta_miss (S := 123) (T := 89) Tryz.underlying89 Tryz.zeroValue89 (by decide) 51
  have a1 := ta_miss (S := 123) (T := 91) Tryz.underlying91 Tryz.zeroValue91 (by decide) 51
  go_enter Tryz.func19, Tryz.ntmps19
  go_wp2_with fail
  refine (kids_leaf i _).mono ?_
  rintro r w1 ⟨rfl, hw1⟩
  rw [hw1]
  clear hw1
  dsimp only
  go_wp2_with fail
  refine wp_loop_rounds 1 ?_
  rw [rounds_succ]
  go_wp2_with fail
  go_ret
  exact ⟨rfl, Below.refl _ _⟩

set_option maxRecDepth 100000 in
theorem safe_text (i : Int) (s : ByteArray) (w : World) : Calls Tryz.prog 19 #[.iface 125 (.agg #[.int .i64 i, .string s])] w (SfAns true w) := by
  have hk := kids_text i s
  have a0 := ta_miss (S := 125) (T := 89) Tryz.underlying89 Tryz.zeroValue89 (by decide) 51
  have a1 := ta_miss (S := 125) (T := 91) Tryz.underlying91 Tryz.zeroValue91 (by decide) 51
  go_enter Tryz.func19, Tryz.ntmps19
  go_wp2_with fail
  refine (kids_leaf i _).mono ?_
  rintro r w1 ⟨rfl, hw1⟩
  rw [hw1]
  clear hw1
  dsimp only
  go_wp2_with fail
  refine wp_loop_rounds 1 ?_
  rw [rounds_succ]
  go_wp2_with fail
  go_ret
  exact ⟨rfl, Below.refl _ _⟩

set_option maxRecDepth 100000 in
theorem safe_bool (i : Int) (b : Bool) (w : World) : Calls Tryz.prog 19 #[.iface 127 (.agg #[.int .i64 i, .bool b])] w (SfAns true w) := by
  have hk := kids_bool i b
  have a0 := ta_miss (S := 127) (T := 89) Tryz.underlying89 Tryz.zeroValue89 (by decide) 51
  have a1 := ta_miss (S := 127) (T := 91) Tryz.underlying91 Tryz.zeroValue91 (by decide) 51
  go_enter Tryz.func19, Tryz.ntmps19
  go_wp2_with fail
  refine (kids_leaf i _).mono ?_
  rintro r w1 ⟨rfl, hw1⟩
  rw [hw1]
  clear hw1
  dsimp only
  go_wp2_with fail
  refine wp_loop_rounds 1 ?_
  rw [rounds_succ]
  go_wp2_with fail
  go_ret
  exact ⟨rfl, Below.refl _ _⟩

set_option maxRecDepth 100000 in
theorem safe_set (i : Int) (a : Option Addr) (n c : Nat) (w : World) : Calls Tryz.prog 19 #[.iface 129 (.agg #[.int .i64 i, .slice a n c])] w (SfAns true w) := by
  have hk := kids_set i a n c
  have a0 := ta_miss (S := 129) (T := 89) Tryz.underlying89 Tryz.zeroValue89 (by decide) 51
  have a1 := ta_miss (S := 129) (T := 91) Tryz.underlying91 Tryz.zeroValue91 (by decide) 51
  go_enter Tryz.func19, Tryz.ntmps19
  go_wp2_with fail
  refine (kids_leaf i _).mono ?_
  rintro r w1 ⟨rfl, hw1⟩
  rw [hw1]
  clear hw1
  dsimp only
  go_wp2_with fail
  refine wp_loop_rounds 1 ?_
  rw [rounds_succ]
  go_wp2_with fail
  go_ret
  exact ⟨rfl, Below.refl _ _⟩

set_option maxRecDepth 100000 in
theorem safe_name (i : Int) (s : ByteArray) (w : World) : Calls Tryz.prog 19 #[.iface 131 (.agg #[.int .i64 i, .string s])] w (SfAns true w) := by
  have hk := kids_name i s
  have a0 := ta_miss (S := 131) (T := 89) Tryz.underlying89 Tryz.zeroValue89 (by decide) 51
  have a1 := ta_miss (S := 131) (T := 91) Tryz.underlying91 Tryz.zeroValue91 (by decide) 51
  go_enter Tryz.func19, Tryz.ntmps19
  go_wp2_with fail
  refine (kids_leaf i _).mono ?_
  rintro r w1 ⟨rfl, hw1⟩
  rw [hw1]
  clear hw1
  dsimp only
  go_wp2_with fail
  refine wp_loop_rounds 1 ?_
  rw [rounds_succ]
  go_wp2_with fail
  go_ret
  exact ⟨rfl, Below.refl _ _⟩

set_option maxRecDepth 100000 in
theorem safe_attr (i n : Int) (w : World) : Calls Tryz.prog 19 #[.iface 132 (.agg #[.int .i64 i, .int .i64 n])] w (SfAns true w) := by
  have hk := kids_attr i n
  have a0 := ta_miss (S := 132) (T := 89) Tryz.underlying89 Tryz.zeroValue89 (by decide) 51
  have a1 := ta_miss (S := 132) (T := 91) Tryz.underlying91 Tryz.zeroValue91 (by decide) 51
  go_enter Tryz.func19, Tryz.ntmps19
  go_wp2_with fail
  refine (kids_leaf i _).mono ?_
  rintro r w1 ⟨rfl, hw1⟩
  rw [hw1]
  clear hw1
  dsimp only
  go_wp2_with fail
  refine wp_loop_rounds 1 ?_
  rw [rounds_succ]
  go_wp2_with fail
  go_ret
  exact ⟨rfl, Below.refl _ _⟩

set_option maxRecDepth 100000 in
theorem safe_lett (i n : Int) (w : World) : Calls Tryz.prog 19 #[.iface 133 (.agg #[.int .i64 i, .int .i64 n])] w (SfAns true w) := by
  have hk := kids_lett i n
  have a0 := ta_miss (S := 133) (T := 89) Tryz.underlying89 Tryz.zeroValue89 (by decide) 51
  have a1 := ta_miss (S := 133) (T := 91) Tryz.underlying91 Tryz.zeroValue91 (by decide) 51
  go_enter Tryz.func19, Tryz.ntmps19
  go_wp2_with fail
  refine (kids_leaf i _).mono ?_
  rintro r w1 ⟨rfl, hw1⟩
  rw [hw1]
  clear hw1
  dsimp only
  go_wp2_with fail
  refine wp_loop_rounds 1 ?_
  rw [rounds_succ]
  go_wp2_with fail
  go_ret
  exact ⟨rfl, Below.refl _ _⟩

set_option maxRecDepth 100000 in
set_option maxHeartbeats 1600000 in
theorem safe_un (i op : Int) (t1 : TypeId) (u1 : Value) (b1 : Bool) (V1 : Hid (∀ w, Calls Tryz.prog 19 #[.iface t1 u1] w (SfAns b1 w))) (w : World) :
    Calls Tryz.prog 19 #[.iface 89 (.agg #[.int .i64 i, .int .i64 op, .iface t1 u1])] w (SfAns (!decide (op = 8) && b1) w) := by
  have hk := kids_un i op t1 u1
  have a0 := ta_hit (T := 89) Tryz.underlying89 51
  have Hk := hide (kids_of_un i op t1 u1)
  have C0 := (Below.refl w.heap.size w).alloc (Nat.le_refl _) (.cells #[.int .i64 i, .int .i64 op, .iface t1 u1] 89)
  by_cases h8 : op = 8
  · subst h8
    go_enter Tryz.func19, Tryz.ntmps19
    go_wp2_with fail
    go_ret
    exact ⟨by simp, C0⟩
  · have e8 : (op == 8) = false := beq_eq_false_iff_ne.2 h8
    rw [decide_eq_false h8]
    clear h8
    go_enter Tryz.func19, Tryz.ntmps19
    go_wp2_with fail
    refine (unhide Hk _).mono ?_
    rintro r w1 ⟨g, rfl, hg, R1, hb1⟩
    have B1 := C0.trans (hb1.mono C0.size)
    have D1 := Below.refl w1.heap.size w1
    dsimp only
    go_wp2_with fail
    refine wp_loop_rounds 2 ?_
    rw [rounds_succ]
    have c1 : w1.cell? ⟨g, 0, none⟩ = some (.iface t1 u1) := (R1.after D1 (Nat.le_refl _)).cell 0
    go_wp2_with fail
    refine (unhide V1 _).mono ?_
    rintro r w2 ⟨rfl, hb2⟩
    have D2 := D1.trans (hb2.mono D1.size)
    clear c1
    cases b1 with
    | false =>
      dsimp only
      go_wp2_with fail
      go_ret
      exact ⟨by simp, B1.trans (D2.mono B1.size)⟩
    | true =>
      dsimp only
      go_wp2_with fail
      rw [rounds_succ]
      go_wp2_with fail
      go_ret
      exact ⟨by simp, B1.trans (D2.mono B1.size)⟩

set_option maxRecDepth 100000 in
set_option maxHeartbeats 1600000 in
theorem safe_bin (i op : Int) (t1 : TypeId) (u1 : Value) (t2 : TypeId) (u2 : Value) (b1 b2 : Bool) (V1 : Hid (∀ w, Calls Tryz.prog 19 #[.iface t1 u1] w (SfAns b1 w))) (V2 : Hid (∀ w, Calls Tryz.prog 19 #[.iface t2 u2] w (SfAns b2 w))) (w : World) :
    Calls Tryz.prog 19 #[.iface 91 (.agg #[.int .i64 i, .int .i64 op, .iface t1 u1, .iface t2 u2])] w (SfAns (!decide (11 ≤ op ∧ op ≤ 16) && (b1 && b2)) w) := by
  have hk := kids_bin i op t1 u1 t2 u2
  have a0 := ta_miss (S := 91) (T := 89) Tryz.underlying89 Tryz.zeroValue89 (by decide) 51
  have a1 := ta_hit (T := 91) Tryz.underlying91 51
  have Hk := hide (kids_of_bin i op t1 u1 t2 u2)
  have C0 := (Below.refl w.heap.size w).alloc (Nat.le_refl _) (.cells #[.int .i64 i, .int .i64 op, .iface t1 u1, .iface t2 u2] 91)
  have HF := hide (mayFail_any op)
  generalize decide (11 ≤ op ∧ op ≤ 16) = mf at HF ⊢
  cases mf with
  | true =>
    go_enter Tryz.func19, Tryz.ntmps19
    go_wp2_with fail
    refine (unhide HF _).mono ?_
    rintro r w0 ⟨rfl, hw0⟩
    rw [hw0]
    clear hw0
    dsimp only
    go_wp2_with fail
    go_ret
    exact ⟨by simp, C0⟩
  | false =>
    go_enter Tryz.func19, Tryz.ntmps19
    go_wp2_with fail
    refine (unhide HF _).mono ?_
    rintro r w0 ⟨rfl, hw0⟩
    rw [hw0]
    clear hw0
    dsimp only
    go_wp2_with fail
    refine (unhide Hk _).mono ?_
    rintro r w1 ⟨g, rfl, hg, R1, hb1⟩
    have B1 := C0.trans (hb1.mono C0.size)
    have D1 := Below.refl w1.heap.size w1
    dsimp only
    go_wp2_with fail
    refine wp_loop_rounds 3 ?_
    rw [rounds_succ]
    have c1 : w1.cell? ⟨g, 0, none⟩ = some (.iface t1 u1) := (R1.after D1 (Nat.le_refl _)).cell 0
    go_wp2_with fail
    refine (unhide V1 _).mono ?_
    rintro r w2 ⟨rfl, hb2⟩
    have D2 := D1.trans (hb2.mono D1.size)
    clear c1
    cases b1 with
    | false =>
      dsimp only
      go_wp2_with fail
      go_ret
      exact ⟨by simp, B1.trans (D2.mono B1.size)⟩
    | true =>
      dsimp only
      go_wp2_with fail
      rw [rounds_succ]
      have c2 : w2.cell? ⟨g, 1, none⟩ = some (.iface t2 u2) := (R1.after D2 (Nat.le_refl _)).cell 1
      go_wp2_with fail
      refine (unhide V2 _).mono ?_
      rintro r w3 ⟨rfl, hb3⟩
      have D3 := D2.trans (hb3.mono D2.size)
      clear c2
      cases b2 with
      | false =>
        dsimp only
        go_wp2_with fail
        go_ret
        exact ⟨by simp, B1.trans (D3.mono B1.size)⟩
      | true =>
        dsimp only
        go_wp2_with fail
        rw [rounds_succ]
        go_wp2_with fail
        go_ret
        exact ⟨by simp, B1.trans (D3.mono B1.size)⟩

set_option maxRecDepth 100000 in
set_option maxHeartbeats 1600000 in
theorem safe_ite (i : Int) (t1 : TypeId) (u1 : Value) (t2 : TypeId) (u2 : Value) (t3 : TypeId) (u3 : Value) (b1 b2 b3 : Bool) (V1 : Hid (∀ w, Calls Tryz.prog 19 #[.iface t1 u1] w (SfAns b1 w))) (V2 : Hid (∀ w, Calls Tryz.prog 19 #[.iface t2 u2] w (SfAns b2 w))) (V3 : Hid (∀ w, Calls Tryz.prog 19 #[.iface t3 u3] w (SfAns b3 w))) (w : World) :
    Calls Tryz.prog 19 #[.iface 135 (.agg #[.int .i64 i, .iface t1 u1, .iface t2 u2, .iface t3 u3])] w (SfAns (b1 && (b2 && b3)) w) := by
  have hk := kids_ite i t1 u1 t2 u2 t3 u3
  have a0 := ta_miss (S := 135) (T := 89) Tryz.underlying89 Tryz.zeroValue89 (by decide) 51
  have a1 := ta_miss (S := 135) (T := 91) Tryz.underlying91 Tryz.zeroValue91 (by decide) 51
  have Hk := hide (kids_of_ite i t1 u1 t2 u2 t3 u3)
  have C0 := Below.refl w.heap.size w
  go_enter Tryz.func19, Tryz.ntmps19
  go_wp2_with fail
  refine (unhide Hk _).mono ?_
  rintro r w1 ⟨g, rfl, hg, R1, hb1⟩
  have B1 := C0.trans (hb1.mono C0.size)
  have D1 := Below.refl w1.heap.size w1
  dsimp only
  go_wp2_with fail
  refine wp_loop_rounds 4 ?_
  rw [rounds_succ]
  have c1 : w1.cell? ⟨g, 0, none⟩ = some (.iface t1 u1) := (R1.after D1 (Nat.le_refl _)).cell 0
  go_wp2_with fail
  refine (unhide V1 _).mono ?_
  rintro r w2 ⟨rfl, hb2⟩
  have D2 := D1.trans (hb2.mono D1.size)
  clear c1
  cases b1 with
  | false =>
    dsimp only
    go_wp2_with fail
    go_ret
    exact ⟨by simp, B1.trans (D2.mono B1.size)⟩
  | true =>
    dsimp only
    go_wp2_with fail
    rw [rounds_succ]
    have c2 : w2.cell? ⟨g, 1, none⟩ = some (.iface t2 u2) := (R1.after D2 (Nat.le_refl _)).cell 1
    go_wp2_with fail
    refine (unhide V2 _).mono ?_
    rintro r w3 ⟨rfl, hb3⟩
    have D3 := D2.trans (hb3.mono D2.size)
    clear c2
    cases b2 with
    | false =>
      dsimp only
      go_wp2_with fail
      go_ret
      exact ⟨by simp, B1.trans (D3.mono B1.size)⟩
    | true =>
      dsimp only
      go_wp2_with fail
      rw [rounds_succ]
      have c3 : w3.cell? ⟨g, 2, none⟩ = some (.iface t3 u3) := (R1.after D3 (Nat.le_refl _)).cell 2
      go_wp2_with fail
      refine (unhide V3 _).mono ?_
      rintro r w4 ⟨rfl, hb4⟩
      have D4 := D3.trans (hb4.mono D3.size)
      clear c3
      cases b3 with
      | false =>
        dsimp only
        go_wp2_with fail
        go_ret
        exact ⟨by simp, B1.trans (D4.mono B1.size)⟩
      | true =>
        dsimp only
        go_wp2_with fail
        rw [rounds_succ]
        go_wp2_with fail
        go_ret
        exact ⟨by simp, B1.trans (D4.mono B1.size)⟩

theorem safe_any : ∀ (e : Ex) (w : World), Calls Tryz.prog 19 #[e.val] w (SfAns (safeE e) w)
  | .int i n, w => safe_int i n w
  | .text i s, w => safe_text i s w
  | .bool i b, w => safe_bool i b w
  | .set i a n c ss, w => safe_set i a n c w
  | .name i s, w => safe_name i s w
  | .attr i n, w => safe_attr i n w
  | .lett i n, w => safe_lett i n w
  | .un i op k, w => by
    have V := safe_any k
    obtain ⟨t1, u1, v1⟩ := k.form
    rw [Ex.val, safeE]
    rw [v1] at V ⊢
    exact safe_un i op t1 u1 _ (hide V) w
  | .bin i op k l, w => by
    have V := safe_any k
    have U := safe_any l
    obtain ⟨t1, u1, v1⟩ := k.form
    obtain ⟨t2, u2, v2⟩ := l.form
    rw [Ex.val, safeE]
    rw [v1] at V ⊢
    rw [v2] at U ⊢
    exact safe_bin i op t1 u1 t2 u2 _ _ (hide V) (hide U) w
  | .ite i k l m, w => by
    have V := safe_any k
    have U := safe_any l
    have X := safe_any m
    obtain ⟨t1, u1, v1⟩ := k.form
    obtain ⟨t2, u2, v2⟩ := l.form
    obtain ⟨t3, u3, v3⟩ := m.form
    rw [Ex.val, safeE]
    rw [v1] at V ⊢
    rw [v2] at U ⊢
    rw [v3] at X ⊢
    exact safe_ite i t1 u1 t2 u2 t3 u3 _ _ _ (hide V) (hide U) (hide X) w

end Go.Proofs.YtjapdeehnfoonaaGreatDoor

/-
  The draws' numbers: l1num, DrawCalc. Own work.
-/
import Derived.Test.YtemekdkeggibaaaDoorRd
import Derived.Test.YtemekdkeggibaaaDoorCalc1
namespace Go.Proofs.YtemekdkeggibaaaDoor
open Go.RowKit Go.ChangeShapes

theorem i64_wf {a : Int} (h : (Lit.int .i64 a).wf = true) : I64 a := ⟨(bounds_i64 h).1, (bounds_i64 h).2⟩

set_option maxHeartbeats 1600000 in
theorem l1num_any (R : Nat) (a : Option Addr) (n c p : Nat) (w : World) (h : Rd w R a n c p) :
    Calls Tryd.prog 15 #[.pointer (some ⟨R, 0, none⟩)] w fun e w' => ∃ r : Int, e = .returned (.int .i64 r) ∧ I64 r ∧ RdAt w' R a n c ∧ Below R w w' := by
  go_enter Tryd.func15, Tryd.ntmps15
  go_wp2_with fail
  refine (next_any R a n c p w h).mono ?_
  rintro e w1 ⟨x, rfl, x0, x1, ⟨p1, h1⟩, hb1⟩
  clear h
  by_cases e4 : x % 8 = 4
  · have q0 : (x % 8 == 0) = false := beq_eq_false_iff_ne.2 (by omega)
    have q1 : (x % 8 == 1) = false := beq_eq_false_iff_ne.2 (by omega)
    have q2 : (x % 8 == 2) = false := beq_eq_false_iff_ne.2 (by omega)
    have q3 : (x % 8 == 3) = false := beq_eq_false_iff_ne.2 (by omega)
    have q4 : (x % 8 == 4) = true := beq_iff_eq.2 (by omega)
    clear e4
    go_wp2_with fail
    refine (next_any R a n c p1 w1 h1).mono ?_
    rintro e w2 ⟨y, rfl, y0, y1, ⟨p2, h2⟩, hb2⟩
    go_wp2_with fail
    refine (next_any R a n c p2 w2 h2).mono ?_
    rintro e w3 ⟨z, rfl, z0, z1, ⟨p3, h3⟩, hb3⟩
    go_wp2_with fail
    go_ret
    exact ⟨_, rfl, ⟨by omega, by omega⟩, ⟨p3, h3⟩, (hb1.trans hb2).trans hb3⟩
  by_cases e5 : x % 8 = 5
  · have q0 : (x % 8 == 0) = false := beq_eq_false_iff_ne.2 (by omega)
    have q1 : (x % 8 == 1) = false := beq_eq_false_iff_ne.2 (by omega)
    have q2 : (x % 8 == 2) = false := beq_eq_false_iff_ne.2 (by omega)
    have q3 : (x % 8 == 3) = false := beq_eq_false_iff_ne.2 (by omega)
    have q4 : (x % 8 == 4) = false := beq_eq_false_iff_ne.2 (by omega)
    have q5 : (x % 8 == 5) = true := beq_iff_eq.2 (by omega)
    clear e4 e5
    go_wp2_with fail
    go_loopw [5, 6] (fun v i wr => ∃ (k : Nat) (m : Int) (p2 : Nat), k ≤ 8 ∧ i = .int .i64 k ∧ v = .int .i64 m ∧ I64 m ∧ Rd wr R a n c p2 ∧ Below R w wr) (fun _ i _ => 8 - (intOf i).toNat)
    case atStart => exact ⟨0, 0, p1, by omega, rfl, rfl, ⟨by omega, by omega⟩, h1, hb1⟩
    case round =>
      obtain ⟨k, m, p2, hk, rfl, rfl, hm, h2, hb2⟩ := hrel
      by_cases hk8 : k < 8
      · have ik : (k : Int) < 8 := by omega
        go_wp2_with (go_at_call 14; refine (next_any R a n c p2 _ h2).mono ?_; rintro e w3 ⟨y, rfl, y0, y1, ⟨p3, h3⟩, hb3⟩)
        go_roundw
        case rel => exact ⟨k + 1, _, p3, by omega, by go_num, rfl, i64_wf (wf_bits _ _ _ _), h3, hb2.trans hb3⟩
        case measure => simp [intOf]; omega
      · have ik : ¬ (k : Int) < 8 := by omega
        go_wp2
        go_ret
        exact ⟨_, rfl, hm, ⟨p2, h2⟩, hb2⟩
  have q4 : (x % 8 == 4) = false := beq_eq_false_iff_ne.2 e4
  have q5 : (x % 8 == 5) = false := beq_eq_false_iff_ne.2 e5
  clear e4 e5
  go_wp2
  all_goals
    go_ret
    exact ⟨_, rfl, ⟨by omega, by omega⟩, ⟨p1, h1⟩, hb1⟩

set_option maxHeartbeats 1600000 in
theorem DrawCalc_any (a : Option Addr) (n c : Nat) (zs : List Int) (w : World) (h : Bytes w a n c zs) (hn : n ≤ 1048576) :
    Calls Tryd.prog 7 #[.slice a n c] w fun e w' => ∃ o x y : Int, e = .returned (.tuple #[.int .i64 o, .int .i64 x, .int .i64 y]) ∧ I64 x ∧ I64 y ∧ Below w.heap.size w w' := by
  have h0 := Rd.new h hn
  have B0 := (Below.refl w.heap.size w).alloc (Nat.le_refl _) (.cells #[.slice a n c, .int .i64 0] 44)
  go_enter Tryd.func7, Tryd.ntmps7
  go_wp2_with fail
  refine (next_any _ a n c 0 _ h0).mono ?_
  rintro e w1 ⟨x, rfl, x0, x1, ⟨p1, h1⟩, hb1⟩
  go_wp2_with fail
  refine (l1num_any _ a n c p1 _ h1).mono ?_
  rintro e w2 ⟨y, rfl, hy, ⟨p2, h2⟩, hb2⟩
  go_wp2_with fail
  refine (l1num_any _ a n c p2 _ h2).mono ?_
  rintro e w3 ⟨z, rfl, hz, ⟨p3, h3⟩, hb3⟩
  by_cases hx : 250 ≤ x
  · go_wp2
    go_ret3
    exact ⟨_, _, _, rfl, hy, hz, ((B0.trans hb1).trans hb2).trans hb3⟩
  · have hx' : x < 250 := by omega
    go_wp2
    go_ret3
    exact ⟨_, _, _, rfl, hy, hz, ((B0.trans hb1).trans hb2).trans hb3⟩

end Go.Proofs.YtemekdkeggibaaaDoor

/-
  An operator over two values. Own work.
-/
import Derived.Test.YtogenboibgddaaaGreatDoorMXAG
namespace Go.Proofs.YtogenboibgddaaaGreatDoor
open Go.RowKit
set_option linter.unusedVariables false

variable {aS aO aZ aW : Addr} {G : Nat → Prop}

theorem OAns.form {o : Ev} {w w' : World} {r : Ending} (h : OAns G aS aO aZ aW o w r w') : ∃ x e, r = .returned (.tuple #[x, e]) ∧ OAns G aS aO aZ aW o w (.returned (.tuple #[x, e])) w' := by
  obtain ⟨h1, h2⟩ := h
  cases o with
  | ok v => obtain ⟨x, rfl, h3⟩ := h1; exact ⟨_, _, rfl, ⟨_, rfl, h3⟩, h2⟩
  | err c => obtain ⟨x, rfl, h3⟩ := h1; exact ⟨_, _, rfl, ⟨_, rfl, h3⟩, h2⟩

theorem OAns.undrew {o : Ev} {w w' : World} {r : Ending} (h : OAns G aS aO aZ aW o w.drew r w') : OAns G aS aO aZ aW o w r w' := ⟨h.1, (Below.refl _ _).drew.trans h.2⟩

set_option maxRecDepth 100000 in
set_option maxHeartbeats 6400000 in
theorem two_any (op : Int) (x y : Value) (v u : Vv) (t : Int) (w : World) (hs : Sent w aS aO aZ aW) (hx : VIs G w x v) (hy : VIs G w y u) (ht : nz (tyOp op [v.ty, u.ty]) = some t) (hc : op ≠ 25 ∧ op ≠ 26) (hG : ∀ b, w.heap.size ≤ b → G b) :
    Calls Tryz.prog 121 #[.int .i64 op, x, y] w (OAns G aS aO aZ aW (evBin op v u) w) := by
  have tmi := tm_int
  have tms := tm_set
  have tmt := tm_text
  rcases tyOp2_inv ht with ⟨ho, hv, hw, _⟩ | ⟨ho, hv, hw, _⟩ | ⟨ho, hv, _⟩ | ⟨ho, hv, hw, _⟩ | ⟨rfl, hv, hw, _⟩ | ⟨rfl, hv, hw, _⟩ | ⟨ho, hv, hw, _⟩
  · obtain ⟨a, rfl⟩ := Vv.int_of hv
    obtain ⟨b, rfl⟩ := Vv.int_of hw
    obtain ⟨rfl, ha⟩ : x = .iface 165 (.int .i64 a) ∧ I64 a := hx
    obtain ⟨rfl, hb⟩ : y = .iface 165 (.int .i64 b) ∧ I64 b := hy
    clear ht hc hv hw
    have HC := hide (nums_any (G := G) op a b w.drew (hs.below (Below.refl _ _).drew (Nat.le_refl _)) ha hb (by omega))
    have e19 : (op == 19) = false := beq_eq_false_iff_ne.2 (by omega)
    have e20 : (op == 20) = false := beq_eq_false_iff_ne.2 (by omega)
    have e23 : (op == 23) = false := beq_eq_false_iff_ne.2 (by omega)
    have e16 : (op == 16) = false := beq_eq_false_iff_ne.2 (by omega)
    have e17 : (op == 17) = false := beq_eq_false_iff_ne.2 (by omega)
    have e18 : (op == 18) = false := beq_eq_false_iff_ne.2 (by omega)
    have e24 : (op == 24) = false := beq_eq_false_iff_ne.2 (by omega)
    clear ho
    go_enter Tryz.func121, Tryz.ntmps121
    go_wp2_with fail
    go_region_held3 (fun _ => True) (trivial) ((go_at_call 126; refine (unhide HC).mono ?_; intro r w1 hr; obtain ⟨x1, e1, rfl, hO⟩ := hr.form; have HO := hide hO; clear hO hr))
    all_goals
      go_wp2_with fail
      exact bodyPost_ret (v := .tuple #[x1, e1]) (by simp [results, Tryz.results121, go_sem]) rfl (unhide HO).undrew
  · obtain ⟨a, rfl⟩ := Vv.set_of hv
    obtain ⟨b, rfl⟩ := Vv.set_of hw
    obtain ⟨xa, xn, xc, rfl, hS⟩ := hx
    obtain ⟨ya, yn, yc, rfl, hS2⟩ := hy
    clear ht hc hv hw
    rcases (show op = 16 ∨ op = 17 ∨ op = 18 by omega) with rfl | rfl | rfl
    · clear ho
      have HC := hide (sets_any 16 xa xn xc a ya yn yc b w.drew (hs.below (Below.refl _ _).drew (Nat.le_refl _)) (hS.1.below (Below.refl _ _).drew (Nat.le_refl _)) (hS2.1.below (Below.refl _ _).drew (Nat.le_refl _)) hS.2.1 hG (by omega))
      go_enter Tryz.func121, Tryz.ntmps121
      go_wp2_with fail
      go_region_held3 (fun _ => True) (trivial) ((go_at_call 125; refine (unhide HC).mono ?_; intro r w1 hr; obtain ⟨x1, e1, rfl, hO⟩ := hr.form; have HO := hide hO; clear hO hr))
      all_goals
        go_wp2_with fail
        exact bodyPost_ret (v := .tuple #[x1, e1]) (by simp [results, Tryz.results121, go_sem]) rfl (unhide HO).undrew
    · clear ho
      have HC := hide (sets_any 17 xa xn xc a ya yn yc b w.drew (hs.below (Below.refl _ _).drew (Nat.le_refl _)) (hS.1.below (Below.refl _ _).drew (Nat.le_refl _)) (hS2.1.below (Below.refl _ _).drew (Nat.le_refl _)) hS.2.1 hG (by omega))
      go_enter Tryz.func121, Tryz.ntmps121
      go_wp2_with fail
      go_region_held3 (fun _ => True) (trivial) ((go_at_call 125; refine (unhide HC).mono ?_; intro r w1 hr; obtain ⟨x1, e1, rfl, hO⟩ := hr.form; have HO := hide hO; clear hO hr))
      all_goals
        go_wp2_with fail
        exact bodyPost_ret (v := .tuple #[x1, e1]) (by simp [results, Tryz.results121, go_sem]) rfl (unhide HO).undrew
    · clear ho
      have HC := hide (sets_any 18 xa xn xc a ya yn yc b w.drew (hs.below (Below.refl _ _).drew (Nat.le_refl _)) (hS.1.below (Below.refl _ _).drew (Nat.le_refl _)) (hS2.1.below (Below.refl _ _).drew (Nat.le_refl _)) hS.2.1 hG (by omega))
      go_enter Tryz.func121, Tryz.ntmps121
      go_wp2_with fail
      go_region_held3 (fun _ => True) (trivial) ((go_at_call 125; refine (unhide HC).mono ?_; intro r w1 hr; obtain ⟨x1, e1, rfl, hO⟩ := hr.form; have HO := hide hO; clear hO hr))
      all_goals
        go_wp2_with fail
        exact bodyPost_ret (v := .tuple #[x1, e1]) (by simp [results, Tryz.results121, go_sem]) rfl (unhide HO).undrew
  · rcases ho with rfl | rfl
    · cases v with
      | bool a => 
        obtain rfl : x = .iface 142 (.bool a) := hx
        obtain ⟨b, rfl⟩ := Vv.bool_of (v := u) hv.symm
        obtain rfl : y = .iface 142 (.bool b) := hy
        have m1 := ms_bool a
        have HC := hide (sameB_any a b w)
        have HE := hide (evBin_eq (.bool a) (.bool b))
        unfold SmAns at HC
        generalize sameV (.bool a) (.bool b) = q at HC HE
        go_enter Tryz.func121, Tryz.ntmps121
        go_wp2_with fail
        refine (unhide HC).mono ?_
        rintro r w1 ⟨rfl, hb1⟩
        dsimp only
        go_wp2_with fail
        refine bodyPost_ret (v := .tuple #[.iface 142 (.bool (q)), .nilIface]) (by simp [results, Tryz.results121, go_sem]) rfl ?_
        rw [unhide HE]
        exact ⟨⟨_, rfl, rfl⟩, hb1⟩
      | int a => 
        obtain ⟨rfl, ha⟩ : x = .iface 165 (.int .i64 a) ∧ I64 a := hx
        obtain ⟨b, rfl⟩ := Vv.int_of (v := u) hv.symm
        obtain ⟨rfl, hb⟩ : y = .iface 165 (.int .i64 b) ∧ I64 b := hy
        have m1 := ms_int a
        have HC := hide (sameI_any a b w)
        have HE := hide (evBin_eq (.int a) (.int b))
        unfold SmAns at HC
        generalize sameV (.int a) (.int b) = q at HC HE
        go_enter Tryz.func121, Tryz.ntmps121
        go_wp2_with fail
        refine (unhide HC).mono ?_
        rintro r w1 ⟨rfl, hb1⟩
        dsimp only
        go_wp2_with fail
        refine bodyPost_ret (v := .tuple #[.iface 142 (.bool (q)), .nilIface]) (by simp [results, Tryz.results121, go_sem]) rfl ?_
        rw [unhide HE]
        exact ⟨⟨_, rfl, rfl⟩, hb1⟩
      | text a => 
        obtain rfl : x = .iface 166 (.string a) := hx
        obtain ⟨b, rfl⟩ := Vv.text_of (v := u) hv.symm
        obtain rfl : y = .iface 166 (.string b) := hy
        have m1 := ms_text a
        have HC := hide (sameT_any a b w)
        have HE := hide (evBin_eq (.text a) (.text b))
        unfold SmAns at HC
        generalize sameV (.text a) (.text b) = q at HC HE
        go_enter Tryz.func121, Tryz.ntmps121
        go_wp2_with fail
        refine (unhide HC).mono ?_
        rintro r w1 ⟨rfl, hb1⟩
        dsimp only
        go_wp2_with fail
        refine bodyPost_ret (v := .tuple #[.iface 142 (.bool (q)), .nilIface]) (by simp [results, Tryz.results121, go_sem]) rfl ?_
        rw [unhide HE]
        exact ⟨⟨_, rfl, rfl⟩, hb1⟩
      | set a => 
        obtain ⟨xa, xn, xc, rfl, hS⟩ := hx
        obtain ⟨b, rfl⟩ := Vv.set_of (v := u) hv.symm
        obtain ⟨ya, yn, yc, rfl, hS2⟩ := hy
        have m1 := ms_set xa xn xc
        have HC := hide (sameS_any xa xn xc a ya yn yc b w hS.1 hS2.1)
        have HE := hide (evBin_eq (.set a) (.set b))
        unfold SmAns at HC
        generalize sameV (.set a) (.set b) = q at HC HE
        go_enter Tryz.func121, Tryz.ntmps121
        go_wp2_with fail
        refine (unhide HC).mono ?_
        rintro r w1 ⟨rfl, hb1⟩
        dsimp only
        go_wp2_with fail
        refine bodyPost_ret (v := .tuple #[.iface 142 (.bool (q)), .nilIface]) (by simp [results, Tryz.results121, go_sem]) rfl ?_
        rw [unhide HE]
        exact ⟨⟨_, rfl, rfl⟩, hb1⟩
    · cases v with
      | bool a => 
        obtain rfl : x = .iface 142 (.bool a) := hx
        obtain ⟨b, rfl⟩ := Vv.bool_of (v := u) hv.symm
        obtain rfl : y = .iface 142 (.bool b) := hy
        have m1 := ms_bool a
        have HC := hide (sameB_any a b w)
        have HE := hide (evBin_ne (.bool a) (.bool b))
        unfold SmAns at HC
        generalize sameV (.bool a) (.bool b) = q at HC HE
        go_enter Tryz.func121, Tryz.ntmps121
        go_wp2_with fail
        refine (unhide HC).mono ?_
        rintro r w1 ⟨rfl, hb1⟩
        dsimp only
        go_wp2_with fail
        refine bodyPost_ret (v := .tuple #[.iface 142 (.bool (!q)), .nilIface]) (by simp [results, Tryz.results121, go_sem]) rfl ?_
        rw [unhide HE]
        exact ⟨⟨_, rfl, rfl⟩, hb1⟩
      | int a => 
        obtain ⟨rfl, ha⟩ : x = .iface 165 (.int .i64 a) ∧ I64 a := hx
        obtain ⟨b, rfl⟩ := Vv.int_of (v := u) hv.symm
        obtain ⟨rfl, hb⟩ : y = .iface 165 (.int .i64 b) ∧ I64 b := hy
        have m1 := ms_int a
        have HC := hide (sameI_any a b w)
        have HE := hide (evBin_ne (.int a) (.int b))
        unfold SmAns at HC
        generalize sameV (.int a) (.int b) = q at HC HE
        go_enter Tryz.func121, Tryz.ntmps121
        go_wp2_with fail
        refine (unhide HC).mono ?_
        rintro r w1 ⟨rfl, hb1⟩
        dsimp only
        go_wp2_with fail
        refine bodyPost_ret (v := .tuple #[.iface 142 (.bool (!q)), .nilIface]) (by simp [results, Tryz.results121, go_sem]) rfl ?_
        rw [unhide HE]
        exact ⟨⟨_, rfl, rfl⟩, hb1⟩
      | text a => 
        obtain rfl : x = .iface 166 (.string a) := hx
        obtain ⟨b, rfl⟩ := Vv.text_of (v := u) hv.symm
        obtain rfl : y = .iface 166 (.string b) := hy
        have m1 := ms_text a
        have HC := hide (sameT_any a b w)
        have HE := hide (evBin_ne (.text a) (.text b))
        unfold SmAns at HC
        generalize sameV (.text a) (.text b) = q at HC HE
        go_enter Tryz.func121, Tryz.ntmps121
        go_wp2_with fail
        refine (unhide HC).mono ?_
        rintro r w1 ⟨rfl, hb1⟩
        dsimp only
        go_wp2_with fail
        refine bodyPost_ret (v := .tuple #[.iface 142 (.bool (!q)), .nilIface]) (by simp [results, Tryz.results121, go_sem]) rfl ?_
        rw [unhide HE]
        exact ⟨⟨_, rfl, rfl⟩, hb1⟩
      | set a => 
        obtain ⟨xa, xn, xc, rfl, hS⟩ := hx
        obtain ⟨b, rfl⟩ := Vv.set_of (v := u) hv.symm
        obtain ⟨ya, yn, yc, rfl, hS2⟩ := hy
        have m1 := ms_set xa xn xc
        have HC := hide (sameS_any xa xn xc a ya yn yc b w hS.1 hS2.1)
        have HE := hide (evBin_ne (.set a) (.set b))
        unfold SmAns at HC
        generalize sameV (.set a) (.set b) = q at HC HE
        go_enter Tryz.func121, Tryz.ntmps121
        go_wp2_with fail
        refine (unhide HC).mono ?_
        rintro r w1 ⟨rfl, hb1⟩
        dsimp only
        go_wp2_with fail
        refine bodyPost_ret (v := .tuple #[.iface 142 (.bool (!q)), .nilIface]) (by simp [results, Tryz.results121, go_sem]) rfl ?_
        rw [unhide HE]
        exact ⟨⟨_, rfl, rfl⟩, hb1⟩
  · obtain ⟨a, rfl⟩ := Vv.int_of hv
    obtain ⟨b, rfl⟩ := Vv.int_of hw
    obtain ⟨rfl, ha⟩ : x = .iface 165 (.int .i64 a) ∧ I64 a := hx
    obtain ⟨rfl, hb⟩ : y = .iface 165 (.int .i64 b) ∧ I64 b := hy
    clear ht hc hv hw
    have HC := hide (nums_any (G := G) op a b w.drew (hs.below (Below.refl _ _).drew (Nat.le_refl _)) ha hb (by omega))
    have e19 : (op == 19) = false := beq_eq_false_iff_ne.2 (by omega)
    have e20 : (op == 20) = false := beq_eq_false_iff_ne.2 (by omega)
    have e23 : (op == 23) = false := beq_eq_false_iff_ne.2 (by omega)
    have e16 : (op == 16) = false := beq_eq_false_iff_ne.2 (by omega)
    have e17 : (op == 17) = false := beq_eq_false_iff_ne.2 (by omega)
    have e18 : (op == 18) = false := beq_eq_false_iff_ne.2 (by omega)
    have e24 : (op == 24) = false := beq_eq_false_iff_ne.2 (by omega)
    clear ho
    go_enter Tryz.func121, Tryz.ntmps121
    go_wp2_with fail
    go_region_held3 (fun _ => True) (trivial) ((go_at_call 126; refine (unhide HC).mono ?_; intro r w1 hr; obtain ⟨x1, e1, rfl, hO⟩ := hr.form; have HO := hide hO; clear hO hr))
    all_goals
      go_wp2_with fail
      exact bodyPost_ret (v := .tuple #[x1, e1]) (by simp [results, Tryz.results121, go_sem]) rfl (unhide HO).undrew
  · obtain ⟨a, rfl⟩ := Vv.text_of hv
    obtain ⟨b, rfl⟩ := Vv.set_of hw
    obtain rfl : x = .iface 166 (.string a) := hx
    obtain ⟨ya, yn, yc, rfl, hS2⟩ := hy
    have HC := hide (containsS_any ya yn yc b a w.drew (hS2.1.below (Below.refl _ _).drew (Nat.le_refl _)))
    have HE := hide (evBin_in a b)
    generalize @decide (a ∈ b) (Classical.propDecidable _) = q at HC HE
    clear ht hc hv hw
    go_enter Tryz.func121, Tryz.ntmps121
    go_wp2_with fail
    go_region_held3 (fun _ => True) (trivial) ((go_at_call 124; refine (unhide HC).mono ?_; rintro r w1 ⟨rfl, hb1⟩))
    all_goals
      go_wp2_with fail
      refine bodyPost_ret (v := .tuple #[.iface 142 (.bool q), .nilIface]) (by simp [results, Tryz.results121, go_sem]) rfl ?_
      rw [unhide HE]
      exact ⟨⟨_, rfl, rfl⟩, (Below.refl _ _).drew.trans hb1⟩
  · obtain ⟨a, rfl⟩ := Vv.set_of hv
    obtain ⟨b, rfl⟩ := Vv.set_of hw
    obtain ⟨xa, xn, xc, rfl, hS⟩ := hx
    obtain ⟨ya, yn, yc, rfl, hS2⟩ := hy
    clear ht hc hv hw
    have HC := hide (sets_any 24 xa xn xc a ya yn yc b w.drew (hs.below (Below.refl _ _).drew (Nat.le_refl _)) (hS.1.below (Below.refl _ _).drew (Nat.le_refl _)) (hS2.1.below (Below.refl _ _).drew (Nat.le_refl _)) hS.2.1 hG (by omega))
    go_enter Tryz.func121, Tryz.ntmps121
    go_wp2_with fail
    go_region_held3 (fun _ => True) (trivial) ((go_at_call 125; refine (unhide HC).mono ?_; intro r w1 hr; obtain ⟨x1, e1, rfl, hO⟩ := hr.form; have HO := hide hO; clear hO hr))
    all_goals
      go_wp2_with fail
      exact bodyPost_ret (v := .tuple #[x1, e1]) (by simp [results, Tryz.results121, go_sem]) rfl (unhide HO).undrew
  · omega

end Go.Proofs.YtogenboibgddaaaGreatDoor

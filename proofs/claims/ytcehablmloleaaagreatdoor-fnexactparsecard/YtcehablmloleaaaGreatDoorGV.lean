/-
  Parse: statement (written by mkgv.py). Own work.
-/
import Derived.Test.YtcehablmloleaaaGreatDoorMXAU
namespace Go.Proofs.YtcehablmloleaaaGreatDoor
open Go.RowKit
set_option linter.unusedVariables false
variable {aY : Addr} {pb g c : Nat} {T : List Tok} {tl : Nat}

theorem StA.form {x : SR} {w w' : World} {r : Ending} (h : StA aY pb g c T tl x w r w') : ∃ i1 i2 n v3 v4 e, r = .returned (.tuple #[.agg #[.int .i64 i1, .int .i64 i2, .string n, v3, v4], e]) ∧ isIf v3 ∧ isIf v4 ∧ isIf e := by
  cases x with
  | ok s q => obtain ⟨⟨o1, o2, k, rfl, _⟩, _⟩ := h; exact ⟨_, _, _, _, _, _, rfl, optX_if o1, optX_if o2, .inl rfl⟩
  | bad q => obtain ⟨⟨i1, i2, n, v3, v4, b, rfl, h3, h4, _⟩, _⟩ := h; exact ⟨_, _, _, _, _, _, rfl, h3, h4, .inr ⟨_, _, rfl⟩⟩

/-- the same statement, told from another block -/
theorem StA.put5 {x : SR} {w w' : World} {i1 i2 : Int} {n : ByteArray} {v3 v4 e : Value} (h : StA aY pb g c T tl x w (.returned (.tuple #[.agg #[.int .i64 i1, .int .i64 i2, .string n, v3, v4], e])) w') {b : Nat} {cs : Array Value} (R : Row w' b cs 111) (hb : w.heap.size ≤ b) :
    StA aY pb g c T tl x w (.returned (.tuple #[.agg #[.int .i64 i1, .int .i64 i2, .string n, v3, v4], e])) (put5 w' b (.int .i64 i1) (.int .i64 i2) (.string n) v3 v4) := by
  cases x with
  | ok s q =>
    obtain ⟨⟨o1, o2, k, h1, h2, h3, h4, h5, h6⟩, h7⟩ := h
    exact ⟨⟨o1, o2, k, h1, h2, h3, ownO_put5 R _ _ _ _ _ o1 h4, ownO_put5 R _ _ _ _ _ o2 h5, h6.put5 R _ _ _ _ _⟩, h7.put5 hb _ _ _ _ _⟩
  | bad q =>
    obtain ⟨⟨j1, j2, m, u3, u4, b', h1, h3, h4, h5⟩, h7⟩ := h
    exact ⟨⟨j1, j2, m, u3, u4, b', h1, h3, h4, h5.put5 R _ _ _ _ _⟩, h7.put5 hb _ _ _ _ _⟩

set_option maxRecDepth 100000 in
set_option maxHeartbeats 1600000 in
theorem stmt_let (t : Tok) (r : List Tok) (x : SR) (hk : see kLet t = true) (IH : ∀ w k, Pp w pb g c T tl (t :: r) k → Gy w aY → Calls Tryz.prog 80 #[.pointer (some ⟨pb, 0, none⟩)] w (StA aY pb g c T tl x w)) (w : World) (k : Nat) (h : Pp w pb g c T tl (t :: r) k) (hg : Gy w aY) :
    Calls Tryz.prog 61 #[.pointer (some ⟨pb, 0, none⟩)] w (StA aY pb g c T tl x w) := by
  have H0 := hide (show sees kLet (t :: r) = true from hk)
  have HI := hide IH
  clear IH hk
  have B0 := (Below.refl w.heap.size w).alloc (Nat.le_refl _) (.cells #[.int .i64 0, .int .i64 0, .string ⟨#[]⟩, .nilIface, .nilIface] 111)
  have R0 := Row.new w #[.int .i64 0, .int .i64 0, .string ⟨#[]⟩, .nilIface, .nilIface] 111
  have HG0 := hide (hg.below B0)
  have hP0 := hide (h.below B0)
  have nz := h.row.lt
  clear h hg
  go_enter Tryz.func61, Tryz.ntmps61
  go_wp2_with fail
  generalize hWW : w.alloc (.cells #[.int .i64 0, .int .i64 0, .string ⟨#[]⟩, .nilIface, .nilIface] 111) = W at *
  have zW : w.heap.size < W.heap.size := by rw [← hWW]; simp
  clear hWW
  refine (sees_any (unhide hP0) kLet).mono ?_
  rintro e s0 ⟨rfl, hs0⟩
  rw [unhide H0]
  have hP1 := hide ((unhide hP0).below hs0)
  have HG1 := hide ((unhide HG0).below hs0)
  have R1 := R0.after hs0 (Nat.le_refl _)
  have B1 := B0.trans (hs0.mono B0.size)
  dsimp only
  go_wp2_with fail
  refine (unhide HI s0 _ (unhide hP1) (unhide HG1)).mono ?_
  intro rr w9 hr
  obtain ⟨i1, i2, nm, v3, v4, e, rfl, h3, h4, h5⟩ := hr.form
  have T9 : Touch pb (pb + 1) s0 w9 := by
    cases x with
    | ok s q => exact hr.2
    | bad q => exact hr.2
  have R9 := R1.touchP T9 (.inr nz)
  have HR := hide (hr.from (Touch.of_below (lo := pb) (hi := pb + 1) B1 (Nat.le_refl _)))
  clear hr
  obtain ⟨c0, c1, c2, c3, c4, cf⟩ := row5P R9
  rcases h3 with rfl | ⟨t3, u3, rfl⟩ <;> rcases h4 with rfl | ⟨t4, u4, rfl⟩
  all_goals
    dsimp only
    go_wp2_with fail
    exact bodyPost_ret (res_st (cs := #[]) Tryz.results61 rfl rfl (put5_row R9 (.int .i64 i1) (.int .i64 i2) (.string nm) _ _)) rfl ((unhide HR).put5 R9 (Nat.le_refl _))

set_option maxRecDepth 100000 in
set_option maxHeartbeats 1600000 in
theorem stmt_when (t : Tok) (r : List Tok) (x : SR) (hk : see kWhen t = true) (IH : ∀ w k, Pp w pb g c T tl (t :: r) k → Gy w aY → Calls Tryz.prog 81 #[.pointer (some ⟨pb, 0, none⟩)] w (StA aY pb g c T tl x w)) (w : World) (k : Nat) (h : Pp w pb g c T tl (t :: r) k) (hg : Gy w aY) :
    Calls Tryz.prog 61 #[.pointer (some ⟨pb, 0, none⟩)] w (StA aY pb g c T tl x w) := by
  have H0 := hide (show sees kLet (t :: r) = false from see_ne hk (by decide))
  have H1 := hide (show sees kWhen (t :: r) = true from hk)
  have HI := hide IH
  clear IH hk
  have B0 := (Below.refl w.heap.size w).alloc (Nat.le_refl _) (.cells #[.int .i64 0, .int .i64 0, .string ⟨#[]⟩, .nilIface, .nilIface] 111)
  have R0 := Row.new w #[.int .i64 0, .int .i64 0, .string ⟨#[]⟩, .nilIface, .nilIface] 111
  have HG0 := hide (hg.below B0)
  have hP0 := hide (h.below B0)
  have nz := h.row.lt
  clear h hg
  go_enter Tryz.func61, Tryz.ntmps61
  go_wp2_with fail
  generalize hWW : w.alloc (.cells #[.int .i64 0, .int .i64 0, .string ⟨#[]⟩, .nilIface, .nilIface] 111) = W at *
  have zW : w.heap.size < W.heap.size := by rw [← hWW]; simp
  clear hWW
  refine (sees_any (unhide hP0) kLet).mono ?_
  rintro e s0 ⟨rfl, hs0⟩
  rw [unhide H0]
  have hP1 := hide ((unhide hP0).below hs0)
  have HG1 := hide ((unhide HG0).below hs0)
  have R1 := R0.after hs0 (Nat.le_refl _)
  have B1 := B0.trans (hs0.mono B0.size)
  dsimp only
  go_wp2_with fail
  refine (sees_any (unhide hP1) kWhen).mono ?_
  rintro e s1 ⟨rfl, hs1⟩
  rw [unhide H1]
  have hP2 := hide ((unhide hP1).below hs1)
  have HG2 := hide ((unhide HG1).below hs1)
  have R2 := R1.after hs1 (Nat.le_refl _)
  have B2 := B1.trans (hs1.mono B1.size)
  dsimp only
  go_wp2_with fail
  refine (unhide HI s1 _ (unhide hP2) (unhide HG2)).mono ?_
  intro rr w9 hr
  obtain ⟨i1, i2, nm, v3, v4, e, rfl, h3, h4, h5⟩ := hr.form
  have T9 : Touch pb (pb + 1) s1 w9 := by
    cases x with
    | ok s q => exact hr.2
    | bad q => exact hr.2
  have R9 := R2.touchP T9 (.inr nz)
  have HR := hide (hr.from (Touch.of_below (lo := pb) (hi := pb + 1) B2 (Nat.le_refl _)))
  clear hr
  obtain ⟨c0, c1, c2, c3, c4, cf⟩ := row5P R9
  rcases h3 with rfl | ⟨t3, u3, rfl⟩ <;> rcases h4 with rfl | ⟨t4, u4, rfl⟩
  all_goals
    dsimp only
    go_wp2_with fail
    exact bodyPost_ret (res_st (cs := #[]) Tryz.results61 rfl rfl (put5_row R9 (.int .i64 i1) (.int .i64 i2) (.string nm) _ _)) rfl ((unhide HR).put5 R9 (Nat.le_refl _))

set_option maxRecDepth 100000 in
set_option maxHeartbeats 1600000 in
theorem stmt_last (t : Tok) (r : List Tok) (x : SR) (hk : see kElse t = true) (IH : ∀ w k, Pp w pb g c T tl (t :: r) k → Gy w aY → Calls Tryz.prog 82 #[.pointer (some ⟨pb, 0, none⟩)] w (StA aY pb g c T tl x w)) (w : World) (k : Nat) (h : Pp w pb g c T tl (t :: r) k) (hg : Gy w aY) :
    Calls Tryz.prog 61 #[.pointer (some ⟨pb, 0, none⟩)] w (StA aY pb g c T tl x w) := by
  have H0 := hide (show sees kLet (t :: r) = false from see_ne hk (by decide))
  have H1 := hide (show sees kWhen (t :: r) = false from see_ne hk (by decide))
  have H2 := hide (show sees kElse (t :: r) = true from hk)
  have HI := hide IH
  clear IH hk
  have B0 := (Below.refl w.heap.size w).alloc (Nat.le_refl _) (.cells #[.int .i64 0, .int .i64 0, .string ⟨#[]⟩, .nilIface, .nilIface] 111)
  have R0 := Row.new w #[.int .i64 0, .int .i64 0, .string ⟨#[]⟩, .nilIface, .nilIface] 111
  have HG0 := hide (hg.below B0)
  have hP0 := hide (h.below B0)
  have nz := h.row.lt
  clear h hg
  go_enter Tryz.func61, Tryz.ntmps61
  go_wp2_with fail
  generalize hWW : w.alloc (.cells #[.int .i64 0, .int .i64 0, .string ⟨#[]⟩, .nilIface, .nilIface] 111) = W at *
  have zW : w.heap.size < W.heap.size := by rw [← hWW]; simp
  clear hWW
  refine (sees_any (unhide hP0) kLet).mono ?_
  rintro e s0 ⟨rfl, hs0⟩
  rw [unhide H0]
  have hP1 := hide ((unhide hP0).below hs0)
  have HG1 := hide ((unhide HG0).below hs0)
  have R1 := R0.after hs0 (Nat.le_refl _)
  have B1 := B0.trans (hs0.mono B0.size)
  dsimp only
  go_wp2_with fail
  refine (sees_any (unhide hP1) kWhen).mono ?_
  rintro e s1 ⟨rfl, hs1⟩
  rw [unhide H1]
  have hP2 := hide ((unhide hP1).below hs1)
  have HG2 := hide ((unhide HG1).below hs1)
  have R2 := R1.after hs1 (Nat.le_refl _)
  have B2 := B1.trans (hs1.mono B1.size)
  dsimp only
  go_wp2_with fail
  refine (sees_any (unhide hP2) kElse).mono ?_
  rintro e s2 ⟨rfl, hs2⟩
  rw [unhide H2]
  have hP3 := hide ((unhide hP2).below hs2)
  have HG3 := hide ((unhide HG2).below hs2)
  have R3 := R2.after hs2 (Nat.le_refl _)
  have B3 := B2.trans (hs2.mono B2.size)
  dsimp only
  go_wp2_with fail
  refine (unhide HI s2 _ (unhide hP3) (unhide HG3)).mono ?_
  intro rr w9 hr
  obtain ⟨i1, i2, nm, v3, v4, e, rfl, h3, h4, h5⟩ := hr.form
  have T9 : Touch pb (pb + 1) s2 w9 := by
    cases x with
    | ok s q => exact hr.2
    | bad q => exact hr.2
  have R9 := R3.touchP T9 (.inr nz)
  have HR := hide (hr.from (Touch.of_below (lo := pb) (hi := pb + 1) B3 (Nat.le_refl _)))
  clear hr
  obtain ⟨c0, c1, c2, c3, c4, cf⟩ := row5P R9
  rcases h3 with rfl | ⟨t3, u3, rfl⟩ <;> rcases h4 with rfl | ⟨t4, u4, rfl⟩
  all_goals
    dsimp only
    go_wp2_with fail
    exact bodyPost_ret (res_st (cs := #[]) Tryz.results61 rfl rfl (put5_row R9 (.int .i64 i1) (.int .i64 i2) (.string nm) _ _)) rfl ((unhide HR).put5 R9 (Nat.le_refl _))

set_option maxRecDepth 100000 in
set_option maxHeartbeats 1600000 in
theorem stmt_none (ts : List Tok) (h1 : sees kLet ts = false) (h2 : sees kWhen ts = false) (h3 : sees kElse ts = false) (w : World) (k : Nat) (h : Pp w pb g c T tl ts k) (hg : Gy w aY) :
    Calls Tryz.prog 61 #[.pointer (some ⟨pb, 0, none⟩)] w (StA aY pb g c T tl (.bad ts) w) := by
  have H0 := hide h1
  have H1 := hide h2
  have H2 := hide h3
  clear h1 h2 h3
  have B0 := (Below.refl w.heap.size w).alloc (Nat.le_refl _) (.cells #[.int .i64 0, .int .i64 0, .string ⟨#[]⟩, .nilIface, .nilIface] 111)
  have R0 := Row.new w #[.int .i64 0, .int .i64 0, .string ⟨#[]⟩, .nilIface, .nilIface] 111
  have HG0 := hide (hg.below B0)
  have hP0 := hide (h.below B0)
  have nz := h.row.lt
  clear h hg
  go_enter Tryz.func61, Tryz.ntmps61
  go_wp2_with fail
  generalize hWW : w.alloc (.cells #[.int .i64 0, .int .i64 0, .string ⟨#[]⟩, .nilIface, .nilIface] 111) = W at *
  have zW : w.heap.size < W.heap.size := by rw [← hWW]; simp
  clear hWW
  refine (sees_any (unhide hP0) kLet).mono ?_
  rintro e s0 ⟨rfl, hs0⟩
  rw [unhide H0]
  have hP1 := hide ((unhide hP0).below hs0)
  have HG1 := hide ((unhide HG0).below hs0)
  have R1 := R0.after hs0 (Nat.le_refl _)
  have B1 := B0.trans (hs0.mono B0.size)
  dsimp only
  go_wp2_with fail
  refine (sees_any (unhide hP1) kWhen).mono ?_
  rintro e s1 ⟨rfl, hs1⟩
  rw [unhide H1]
  have hP2 := hide ((unhide hP1).below hs1)
  have HG2 := hide ((unhide HG1).below hs1)
  have R2 := R1.after hs1 (Nat.le_refl _)
  have B2 := B1.trans (hs1.mono B1.size)
  dsimp only
  go_wp2_with fail
  refine (sees_any (unhide hP2) kElse).mono ?_
  rintro e s2 ⟨rfl, hs2⟩
  rw [unhide H2]
  have hP3 := hide ((unhide hP2).below hs2)
  have HG3 := hide ((unhide HG2).below hs2)
  have R3 := R2.after hs2 (Nat.le_refl _)
  have B3 := B2.trans (hs2.mono B2.size)
  dsimp only
  go_wp2_with fail
  refine (stuck_any (unhide hP3) (unhide HG3)).mono ?_
  rintro e w9 ⟨b, rfl, RE, hb9⟩
  have R9 := R3.after hb9 (Nat.le_refl _)
  have T9 := (Touch.of_below (lo := pb) (hi := pb + 1) B3 (Nat.le_refl _)).allP hb9
  obtain ⟨c0, c1, c2, c3, c4, cf⟩ := row5P R9
  dsimp only [errP]
  go_wp2_with fail
  exact bodyPost_ret (res_st (cs := #[]) Tryz.results61 rfl rfl (put5_row R9 (.int .i64 0) (.int .i64 0) (.string ⟨#[]⟩) .nilIface .nilIface)) rfl ⟨⟨_, _, _, _, _, b, rfl, .inl rfl, .inl rfl, RE.put5 R9 (.int .i64 0) (.int .i64 0) (.string ⟨#[]⟩) .nilIface .nilIface⟩, T9.put5 (Nat.le_refl _) (.int .i64 0) (.int .i64 0) (.string ⟨#[]⟩) .nilIface .nilIface⟩

theorem statement_any (hp : 17 ≤ pb) (ts : List Tok) (x : SR) (d : DS ts x) (w : World) (k : Nat) (h : Pp w pb g c T tl ts k) (hg : Gy w aY) :
    Calls Tryz.prog 61 #[.pointer (some ⟨pb, 0, none⟩)] w (StA aY pb g c T tl x w) := by
  cases d with
  | @let_nil t hk => exact stmt_let t [] _ hk (fun w k h hg => let_no_any hp t [] (show (0 : Int) ≠ 3 by decide) w k h hg) w k h hg
  | @let_no t n r hk hn => exact stmt_let t _ _ hk (fun w k h hg => let_no_any hp t (n :: r) hn w k h hg) w k h hg
  | @let_bad t n r q hk hn d => exact stmt_let t _ _ hk (fun w k h hg => let_any hp t n r _ hn d w k h hg) w k h hg
  | @let_end t n r q e hk hn d hq =>
    have ee : letX t n (.ok e q) = .bad q := by
      cases q with
      | nil => rfl
      | cons u q => exact if_neg (by rw [show see kSemi u = false from hq]; decide)
    rw [← ee]
    exact stmt_let t _ _ hk (fun w k h hg => let_any hp t n r _ hn d w k h hg) w k h hg
  | @let_ t n u r q e hk hn d hq =>
    have ee : letX t n (.ok e (u :: q)) = .ok ⟨t.at_, 1, n.text, some e, none⟩ q := if_pos hq
    rw [← ee]
    exact stmt_let t _ _ hk (fun w k h hg => let_any hp t n r _ hn d w k h hg) w k h hg
  | @when_bad t r q hk d => exact stmt_when t _ _ hk (fun w k h hg => when_bad_any hp t r q d w k h hg) w k h hg
  | @when_bad2 t r q p e hk d d2 => exact stmt_when t _ _ hk (fun w k h hg => when_any hp t r q e (.bad p) d d2 w k h hg) w k h hg
  | @when_end t r q p e g' hk d d2 hq =>
    have ee : whenX t e (.ok g' p) = .bad p := by
      cases p with
      | nil => rfl
      | cons u q => exact if_neg (by rw [show see kSemi u = false from hq]; decide)
    rw [← ee]
    exact stmt_when t _ _ hk (fun w k h hg => when_any hp t r q e _ d d2 w k h hg) w k h hg
  | @when t u r q p e g' hk d d2 hq =>
    have ee : whenX t e (.ok g' (u :: p)) = .ok ⟨t.at_, 2, ofL [], some e, g'⟩ p := if_pos hq
    rw [← ee]
    exact stmt_when t _ _ hk (fun w k h hg => when_any hp t r q e _ d d2 w k h hg) w k h hg
  | @else_bad t r q hk d => exact stmt_last t _ _ hk (fun w k h hg => last_any hp t r (.bad q) d w k h hg) w k h hg
  | @else_end t r q g' hk d hq =>
    have ee : lastX t (.ok g' q) = .bad q := by
      cases q with
      | nil => rfl
      | cons u q => exact if_neg (by rw [show see kSemi u = false from hq]; decide)
    rw [← ee]
    exact stmt_last t _ _ hk (fun w k h hg => last_any hp t r _ d w k h hg) w k h hg
  | @else_ t u r q g' hk d hq =>
    have ee : lastX t (.ok g' (u :: q)) = .ok ⟨t.at_, 3, ofL [], none, g'⟩ q := if_pos hq
    rw [← ee]
    exact stmt_last t _ _ hk (fun w k h hg => last_any hp t r _ d w k h hg) w k h hg
  | none h1 h2 h3 => exact stmt_none ts h1 h2 h3 w k h hg

end Go.Proofs.YtcehablmloleaaaGreatDoor

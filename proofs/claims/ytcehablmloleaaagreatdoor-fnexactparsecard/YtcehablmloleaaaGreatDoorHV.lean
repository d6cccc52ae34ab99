/-
  Parse, the model: Parse (written by mkhv.py). Own work.
-/
import Derived.Test.YtcehablmloleaaaGreatDoorHU
import Derived.Test.YtcehablmloleaaaGreatDoorMXAQ
import Derived.Test.YtcehablmloleaaaGreatDoorMXAW
import Derived.Test.YtcehablmloleaaaGreatDoorTH
namespace Go.Proofs.YtcehablmloleaaaGreatDoor
open Go.RowKit
set_option linter.unusedVariables false

/-- a policy and a fault are laid into their blocks -/
def pfW (W : World) (b : Nat) (p0 p1 f0 f1 : Value) : World := ((((W.setCell ⟨b, 0, none⟩ p0).setCell ⟨b, 1, none⟩ p1).setCell ⟨b + 1, 0, none⟩ f0).setCell ⟨b + 1, 1, none⟩ f1).drew

theorem pfW_other (W : World) (b : Nat) (p0 p1 f0 f1 : Value) (q : Nat) (h1 : q ≠ b) (h2 : q ≠ b + 1) : (pfW W b p0 p1 f0 f1).heap[q]? = W.heap[q]? := by
  show ((((W.setCell ⟨b, 0, none⟩ p0).setCell ⟨b, 1, none⟩ p1).setCell ⟨b + 1, 0, none⟩ f0).setCell ⟨b + 1, 1, none⟩ f1).heap[q]? = _
  rw [heap_setCell_other _ _ q _ h2, heap_setCell_other _ _ q _ h2, heap_setCell_other _ _ q _ h1, heap_setCell_other _ _ q _ h1]

theorem pfW_rows {W w : World} {u0 u1 u2 u3 : Value} (R : Row W w.heap.size #[u0, u1] 25) (F : Row W (w.heap.size + 1) #[u2, u3] 28) (B : Below w.heap.size w W) (p0 p1 f0 f1 : Value) : Row (pfW W w.heap.size p0 p1 f0 f1) w.heap.size #[p0, p1] 25 ∧ Row (pfW W w.heap.size p0 p1 f0 f1) (w.heap.size + 1) #[f0, f1] 28 ∧ Below w.heap.size w (pfW W w.heap.size p0 p1 f0 f1) := by
  have n1 : w.heap.size ≠ w.heap.size + 1 := by omega
  have n2 : w.heap.size + 1 ≠ w.heap.size := by omega
  have h1 := (((R.set 0 p0).set 1 p1).setFar (p := ⟨w.heap.size + 1, 0, none⟩) n1 f0).setFar (p := ⟨w.heap.size + 1, 1, none⟩) n1 f1
  have h2 := (((F.setFar (p := ⟨w.heap.size, 0, none⟩) n2 p0).setFar (p := ⟨w.heap.size, 1, none⟩) n2 p1).set 0 f0).set 1 f1
  have h3 := ((((B.setCell (p := ⟨w.heap.size, 0, none⟩) (Nat.le_refl _) p0).setCell (p := ⟨w.heap.size, 1, none⟩) (Nat.le_refl _) p1).setCell (p := ⟨w.heap.size + 1, 0, none⟩) (Nat.le_succ _) f0).setCell (p := ⟨w.heap.size + 1, 1, none⟩) (Nat.le_succ _) f1).drew
  exact ⟨⟨h1.out⟩, ⟨h2.out⟩, h3⟩

theorem IpA.fault (cd at_ : Int) {w w' : World} (h : Below w.heap.size w w') : IpA ([], [], [], cd, at_) w (.returned (.tuple #[.agg #[.slice none 0 0, .slice none 0 0], .slice none 0 0, .agg #[.int .i64 cd, .int .i64 at_]])) w' :=
  ⟨⟨_, _, [], [], _, rfl, OwnN.nil _ _, World.ownsRow_nil _ _ _ _, World.ownsRow_nil _ _ _ _, (fun q hq => by cases hq)⟩, h⟩

theorem DP.suf {ts : List Tok} {x : QR} (d : DP ts x) : ∀ q, x = .bad q → ∃ c, ts = c ++ q := by
  induction d with
  | bad d => intro q h; cases h; obtain ⟨c, hc, _⟩ := d.suf; exact ⟨c, hc⟩
  | @more ts r s x d hk d2 ih =>
    intro q h
    cases x with
    | ok T => cases h
    | bad p =>
      cases h
      obtain ⟨c, hc, _⟩ := d.suf
      obtain ⟨c2, hc2⟩ := ih q rfl
      exact ⟨c ++ c2, by rw [hc, List.append_assoc, ← hc2]; rfl⟩
  | last => intro q h; cases h
  | over d hk => intro q h; cases h; obtain ⟨c, hc, _⟩ := d.suf; exact ⟨c, hc⟩

/-- the facts of the two blocks of an answer -/
theorem pf_cells {W : World} {b : Nat} {u0 u1 u2 u3 : Value} (R : Row W b #[u0, u1] 25) (F : Row W (b + 1) #[u2, u3] 28) : (W.cell? ⟨b, 0, none⟩ = some u0 ∧ W.cell? ⟨b, 1, none⟩ = some u1) ∧ (∀ j, W.frozen? ⟨b, j, none⟩ = false) ∧ (W.cell? ⟨b + 1, 0, none⟩ = some u2 ∧ W.cell? ⟨b + 1, 1, none⟩ = some u3) ∧ ∀ j, W.frozen? ⟨b + 1, j, none⟩ = false :=
  ⟨⟨R.cell 0, R.cell 1⟩, fun j => R.frozen j, ⟨F.cell 0, F.cell 1⟩, fun j => F.frozen j⟩

theorem fl_cells {W : World} {b : Nat} {u2 u3 : Value} (F : Row W b #[u2, u3] 28) : W.cell? ⟨b, 0, none⟩ = some u2 ∧ W.cell? ⟨b, 1, none⟩ = some u3 := ⟨F.cell 0, F.cell 1⟩

set_option maxRecDepth 100000 in
set_option maxHeartbeats 6400000 in
theorem sParse_scan (t : ByteArray) (x : QR) (w : World) (ht : t.size ≤ 1048576) (hc : (scanR t).code ≠ 0) :
    Calls Tryz.prog 4 #[.string t] w (IpA (psR t x) w) := by
  rw [psR_scan hc]
  have HSC := hide (fun W => sScan_any t W ht)
  generalize scanR t = R at HSC hc ⊢
  obtain ⟨T, cd, at_⟩ := R
  dsimp only at HSC hc ⊢
  have B0 := ((Below.refl w.heap.size w).alloc (Nat.le_refl _) (.cells #[.slice none 0 0, .slice none 0 0] 25)).alloc (by simp) (.cells #[.int .i64 0, .int .i64 0] 28)
  have R0 := (Row.new w #[.slice none 0 0, .slice none 0 0] 25).alloc (.cells #[.int .i64 0, .int .i64 0] 28)
  have F0 := Row.new (w.alloc (.cells #[.slice none 0 0, .slice none 0 0] 25)) #[.int .i64 0, .int .i64 0] 28
  simp only [World.size_alloc] at F0
  go_enter Tryz.func4, Tryz.ntmps4
  go_wp2_with fail
  generalize hWW : (w.alloc (.cells #[.slice none 0 0, .slice none 0 0] 25)).alloc (.cells #[.int .i64 0, .int .i64 0] 28) = W at B0 R0 F0 ⊢
  have zW : W.heap.size = w.heap.size + 2 := by rw [← hWW]; simp
  clear hWW
  refine (unhide HSC W).mono ?_
  rintro r w1 ⟨xa, ca, rfl, O1, ok1, hb1⟩
  have B1 := B0.trans (hb1.mono B0.size)
  have R1 := R0.after hb1 (Nat.le_refl _)
  have F1 := F0.after hb1 (Nat.le_refl _)
  have hz1 : w.heap.size + 2 ≤ w1.heap.size := by have := hb1.size; omega
  clear B0 R0 F0 hb1 zW
  have hc2 : (cd != 0) = true := by simpa using hc
  clear hc
  have RQ := Row.new w1 #[.int .i64 cd, .int .i64 at_] 28
  have R2 := R1.alloc (.cells #[.int .i64 cd, .int .i64 at_] 28)
  have F2 := F1.alloc (.cells #[.int .i64 cd, .int .i64 at_] 28)
  have B2 := B1.alloc B1.size (.cells #[.int .i64 cd, .int .i64 at_] 28)
  dsimp only
  go_wp2_with fail
  generalize w1.alloc (.cells #[.int .i64 cd, .int .i64 at_] 28) = W2 at RQ R2 F2 B2 ⊢
  obtain ⟨a0, a1⟩ := fl_cells RQ
  obtain ⟨⟨r0, r1⟩, rf, ⟨u0, u1⟩, uf⟩ := pf_cells R2 F2
  have n1 : w.heap.size ≠ w.heap.size + 1 := by omega
  have n2 : w.heap.size + 1 ≠ w.heap.size := by omega
  have n3 : w1.heap.size ≠ w.heap.size := by omega
  have n4 : w1.heap.size ≠ w.heap.size + 1 := by omega
  obtain ⟨RX, FX, BX⟩ := pfW_rows R2 F2 B2 (.slice none 0 0) (.slice none 0 0) (.int .i64 cd) (.int .i64 at_)
  have HX := hide (And.intro RX (And.intro FX BX))
  clear RX FX BX
  go_region_law fail
  all_goals
    clear a0 a1 r0 r1 rf u0 u1 uf n1 n2 n3 n4
    go_wp2_with fail
    exact bodyPost_ret (res_pf Tryz.results4 rfl rfl rfl (unhide HX).1 (unhide HX).2.1) rfl (IpA.fault _ _ (unhide HX).2.2)

set_option maxRecDepth 100000 in
set_option maxHeartbeats 6400000 in
theorem sParse_bad (t : ByteArray) (q : List Tok) (w : World) (ht : t.size ≤ 1048576) (hc : (scanR t).code = 0) (d : DP (scanR t).toks (.bad q)) :
    Calls Tryz.prog 4 #[.string t] w (IpA (psR t (.bad q)) w) := by
  rw [psR_bad hc]
  have HOK := hide (fun u hu => (scan_okTk t u hu).1)
  have HTX := hide (fun u hu => (scan_okTk t u hu).2)
  have HLL := hide (scan_len t)
  have HSC := hide (fun W => sScan_any t W ht)
  have HRU := hide (d.run (unhide HOK))
  obtain ⟨cs, hcs⟩ := d.suf q rfl
  clear d
  generalize scanR t = R at HSC hc HOK HLL HRU HTX hcs ⊢
  obtain ⟨T, cd, at_⟩ := R
  dsimp only at HSC hc HOK HLL HRU HTX hcs ⊢
  subst hc
  have hres : unX T (QR.bad q).res = ((cs.length : Nat) : Int) := by
    rw [hcs]; simp [QR.res, unX]
  have HUX := hide hres
  clear hres
  cases q with
  | nil =>
    have e1 : (hdE t.size ([] : List Tok)).at_ = t.size := rfl
    rw [e1]
    have hlen : T.length = cs.length := by rw [hcs]; simp
    have i1 : ¬ ((cs.length : Int) < (T.length : Int)) := by omega
    have hl4 : T.length ≤ 4000 := unhide HLL
    clear hcs e1 hlen
    have B0 := ((Below.refl w.heap.size w).alloc (Nat.le_refl _) (.cells #[.slice none 0 0, .slice none 0 0] 25)).alloc (by simp) (.cells #[.int .i64 0, .int .i64 0] 28)
    have R0 := (Row.new w #[.slice none 0 0, .slice none 0 0] 25).alloc (.cells #[.int .i64 0, .int .i64 0] 28)
    have F0 := Row.new (w.alloc (.cells #[.slice none 0 0, .slice none 0 0] 25)) #[.int .i64 0, .int .i64 0] 28
    simp only [World.size_alloc] at F0
    go_enter Tryz.func4, Tryz.ntmps4
    go_wp2_with fail
    generalize hWW : (w.alloc (.cells #[.slice none 0 0, .slice none 0 0] 25)).alloc (.cells #[.int .i64 0, .int .i64 0] 28) = W at B0 R0 F0 ⊢
    have zW : W.heap.size = w.heap.size + 2 := by rw [← hWW]; simp
    clear hWW
    refine (unhide HSC W).mono ?_
    rintro r w1 ⟨xa, ca, rfl, O1, ok1, hb1⟩
    have B1 := B0.trans (hb1.mono B0.size)
    have R1 := R0.after hb1 (Nat.le_refl _)
    have F1 := F0.after hb1 (Nat.le_refl _)
    have hz1 : w.heap.size + 2 ≤ w1.heap.size := by have := hb1.size; omega
    clear B0 R0 F0 hb1 zW
    have RQ := Row.new w1 #[.int .i64 0, .int .i64 (at_ : Int)] 28
    have R2 := R1.alloc (.cells #[.int .i64 0, .int .i64 (at_ : Int)] 28)
    have F2 := F1.alloc (.cells #[.int .i64 0, .int .i64 (at_ : Int)] 28)
    have B2 := B1.alloc B1.size (.cells #[.int .i64 0, .int .i64 (at_ : Int)] 28)
    have O2 := World.ownsRow.alloc O1 (.cells #[.int .i64 0, .int .i64 (at_ : Int)] 28)
    have z2 : (w1.alloc (.cells #[.int .i64 0, .int .i64 (at_ : Int)] 28)).heap.size = w1.heap.size + 1 := by simp
    dsimp only
    go_wp2_with fail
    generalize w1.alloc (.cells #[.int .i64 0, .int .i64 (at_ : Int)] 28) = W2 at RQ R2 F2 B2 O2 z2 ⊢
    refine (unfit_any T xa ca _ W2 O2 (unhide HOK) (unhide HLL) _ (unhide HRU)).mono ?_
    rintro r w3 ⟨rfl, hb3⟩
    have R3 := R2.after hb3 (Nat.le_refl _)
    have F3 := F2.after hb3 (Nat.le_refl _)
    have B3 := B2.trans (hb3.mono B2.size)
    have O3 := ownsRow_below O2 hb3 (Nat.le_refl _)
    have hz3 : w1.heap.size + 1 ≤ w3.heap.size := by have := hb3.size; omega
    clear z2 R1 F1 R2 F2 B2 O2 RQ hb3 O1
    rw [unhide HUX]
    have FQ := Row.new w3 #[.int .i64 4, .int .i64 (t.size : Int)] 28
    have R4 := R3.alloc (.cells #[.int .i64 4, .int .i64 (t.size : Int)] 28)
    have F4 := F3.alloc (.cells #[.int .i64 4, .int .i64 (t.size : Int)] 28)
    have B4 := B3.alloc B3.size (.cells #[.int .i64 4, .int .i64 (t.size : Int)] 28)
    dsimp only
    go_wp2_with fail
    generalize w3.alloc (.cells #[.int .i64 4, .int .i64 (t.size : Int)] 28) = W4 at FQ R4 F4 B4 ⊢
    clear R3 F3 B3 O3
    obtain ⟨a0, a1⟩ := fl_cells FQ
    obtain ⟨⟨r0, r1⟩, rf, ⟨u0, u1⟩, uf⟩ := pf_cells R4 F4
    have n1 : w.heap.size ≠ w.heap.size + 1 := by omega
    have n2 : w.heap.size + 1 ≠ w.heap.size := by omega
    have n3 : w3.heap.size ≠ w.heap.size := by omega
    have n4 : w3.heap.size ≠ w.heap.size + 1 := by omega
    obtain ⟨RX, FX, BX⟩ := pfW_rows R4 F4 B4 (.slice none 0 0) (.slice none 0 0) (.int .i64 4) (.int .i64 (t.size : Int))
    have HX := hide (And.intro RX (And.intro FX BX))
    clear RX FX BX
    go_region_law fail
    all_goals
      clear a0 a1 r0 r1 rf u0 u1 uf n1 n2 n3 n4
      go_wp2_with fail
      exact bodyPost_ret (res_pf Tryz.results4 rfl rfl rfl (unhide HX).1 (unhide HX).2.1) rfl (IpA.fault _ _ (unhide HX).2.2)
  | cons u q =>
    have e1 : (hdE t.size (u :: q)).at_ = u.at_ := rfl
    rw [e1]
    have hlt : cs.length < T.length := by rw [hcs]; simp
    have HAT := hide (show T[cs.length] = u by simp [hcs])
    have i1 : (cs.length : Int) < (T.length : Int) := by omega
    have hl4 : T.length ≤ 4000 := unhide HLL
    clear hcs e1
    have B0 := ((Below.refl w.heap.size w).alloc (Nat.le_refl _) (.cells #[.slice none 0 0, .slice none 0 0] 25)).alloc (by simp) (.cells #[.int .i64 0, .int .i64 0] 28)
    have R0 := (Row.new w #[.slice none 0 0, .slice none 0 0] 25).alloc (.cells #[.int .i64 0, .int .i64 0] 28)
    have F0 := Row.new (w.alloc (.cells #[.slice none 0 0, .slice none 0 0] 25)) #[.int .i64 0, .int .i64 0] 28
    simp only [World.size_alloc] at F0
    go_enter Tryz.func4, Tryz.ntmps4
    go_wp2_with fail
    generalize hWW : (w.alloc (.cells #[.slice none 0 0, .slice none 0 0] 25)).alloc (.cells #[.int .i64 0, .int .i64 0] 28) = W at B0 R0 F0 ⊢
    have zW : W.heap.size = w.heap.size + 2 := by rw [← hWW]; simp
    clear hWW
    refine (unhide HSC W).mono ?_
    rintro r w1 ⟨xa, ca, rfl, O1, ok1, hb1⟩
    have B1 := B0.trans (hb1.mono B0.size)
    have R1 := R0.after hb1 (Nat.le_refl _)
    have F1 := F0.after hb1 (Nat.le_refl _)
    have hz1 : w.heap.size + 2 ≤ w1.heap.size := by have := hb1.size; omega
    clear B0 R0 F0 hb1 zW
    have RQ := Row.new w1 #[.int .i64 0, .int .i64 (at_ : Int)] 28
    have R2 := R1.alloc (.cells #[.int .i64 0, .int .i64 (at_ : Int)] 28)
    have F2 := F1.alloc (.cells #[.int .i64 0, .int .i64 (at_ : Int)] 28)
    have B2 := B1.alloc B1.size (.cells #[.int .i64 0, .int .i64 (at_ : Int)] 28)
    have O2 := World.ownsRow.alloc O1 (.cells #[.int .i64 0, .int .i64 (at_ : Int)] 28)
    have z2 : (w1.alloc (.cells #[.int .i64 0, .int .i64 (at_ : Int)] 28)).heap.size = w1.heap.size + 1 := by simp
    dsimp only
    go_wp2_with fail
    generalize w1.alloc (.cells #[.int .i64 0, .int .i64 (at_ : Int)] 28) = W2 at RQ R2 F2 B2 O2 z2 ⊢
    refine (unfit_any T xa ca _ W2 O2 (unhide HOK) (unhide HLL) _ (unhide HRU)).mono ?_
    rintro r w3 ⟨rfl, hb3⟩
    have R3 := R2.after hb3 (Nat.le_refl _)
    have F3 := F2.after hb3 (Nat.le_refl _)
    have B3 := B2.trans (hb3.mono B2.size)
    have O3 := ownsRow_below O2 hb3 (Nat.le_refl _)
    have hz3 : w1.heap.size + 1 ≤ w3.heap.size := by have := hb3.size; omega
    clear z2 R1 F1 R2 F2 B2 O2 RQ hb3 O1
    rw [unhide HUX]
    obtain ⟨xg, cg, hxv, hx⟩ := owns_form2 O3
    simp only [Value.slice.injEq] at hxv
    obtain ⟨rfl, _, rfl⟩ := hxv
    obtain ⟨g, rfl, hgl, hcell⟩ := hx (by omega)
    have hg3 := (O3.lt g rfl).2
    have c3 := hcell _ _ (tokC_at T cs.length hlt).2.2.2
    rw [unhide HAT] at c3
    have FQ := Row.new w3 #[.int .i64 4, .int .i64 (u.at_ : Int)] 28
    have R4 := R3.alloc (.cells #[.int .i64 4, .int .i64 (u.at_ : Int)] 28)
    have F4 := F3.alloc (.cells #[.int .i64 4, .int .i64 (u.at_ : Int)] 28)
    have B4 := B3.alloc B3.size (.cells #[.int .i64 4, .int .i64 (u.at_ : Int)] 28)
    clear hcell hx
    dsimp only
    go_wp2_with fail
    generalize w3.alloc (.cells #[.int .i64 4, .int .i64 (u.at_ : Int)] 28) = W4 at FQ R4 F4 B4 ⊢
    clear R3 F3 B3 O3 c3
    obtain ⟨a0, a1⟩ := fl_cells FQ
    obtain ⟨⟨r0, r1⟩, rf, ⟨u0, u1⟩, uf⟩ := pf_cells R4 F4
    have n1 : w.heap.size ≠ w.heap.size + 1 := by omega
    have n2 : w.heap.size + 1 ≠ w.heap.size := by omega
    have n3 : w3.heap.size ≠ w.heap.size := by omega
    have n4 : w3.heap.size ≠ w.heap.size + 1 := by omega
    obtain ⟨RX, FX, BX⟩ := pfW_rows R4 F4 B4 (.slice none 0 0) (.slice none 0 0) (.int .i64 4) (.int .i64 (u.at_ : Int))
    have HX := hide (And.intro RX (And.intro FX BX))
    clear RX FX BX
    go_region_law fail
    all_goals
      clear a0 a1 r0 r1 rf u0 u1 uf n1 n2 n3 n4
      go_wp2_with fail
      exact bodyPost_ret (res_pf Tryz.results4 rfl rfl rfl (unhide HX).1 (unhide HX).2.1) rfl (IpA.fault _ _ (unhide HX).2.2)

end Go.Proofs.YtcehablmloleaaaGreatDoor

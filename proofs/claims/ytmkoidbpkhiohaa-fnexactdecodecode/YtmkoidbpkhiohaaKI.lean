/-
  The program's decoder. Own work.
-/
import Derived.Test.YtmkoidbpkhiohaaKH
namespace Go.Proofs.Ytmkoidbpkhiohaa
open Go.RowKit
set_option linter.unusedVariables false

theorem insI_ok (s : Rs) (h : okB s.1) : True ∧ okB (insI s).2.1 := ⟨trivial, (takeI_ok 2 _ (takeI_ok 1 s h).2).2⟩

/-- what is read is small -/
def okC (c : Cd) : Prop := c.pool.length ≤ 65535 ∧ (∀ x ∈ c.pool, okV x) ∧ c.ins.length ≤ 65535

theorem bodyI_ok (s : Rs) (h : okB s.1) : okC (bodyI s).1 ∧ okB (bodyI s).2.1 := by
  have r1 := num2_range s h
  have o1 : okB (numI 2 s).2.1 := (takeI_ok 2 s h).2
  obtain ⟨a1, a2, a3⟩ := manyI_all (f := valI) (p := okV) valI_ok (numI 2 s).1.toNat (numI 2 s).2 o1
  have o2 := (takeI_ok 2 _ a2).2
  have o3 := (takeI_ok 2 _ o2).2
  have r2 := num2_range _ o2
  obtain ⟨b1, b2, b3⟩ := manyI_all (f := insI) (p := fun _ => True) insI_ok _ _ o3
  refine ⟨⟨?_, a1, ?_⟩, b2⟩
  · exact Nat.le_trans a3 (by omega)
  · refine Nat.le_trans b3 ?_
    have : ((numI 2 (takeI 2 (manyI valI (numI 2 s).1.toNat (numI 2 s).2).2).2).1).toNat ≤ 65535 := by omega
    exact this

theorem markI_ok (s : Rs) (h : okB s.1) : okB (markI s).1 := by
  unfold markI
  split
  · exact (takeI_ok 3 s h).2
  · exact (takeI_ok 3 s h).2

/-- the decoder's answer, by the reader's -/
theorem decI_eq (L : List Int) (ok : okB L) : decI L = if (bodyI (markI (L, false))).2 = ([], false) ∧ shapB (bodyI (markI (L, false))).1.pool (bodyI (markI (L, false))).1.slots (bodyI (markI (L, false))).1.ins = true then some (bodyI (markI (L, false))).1 else none := by
  have ht := takeI_ok 3 (L, false) ok
  unfold decI
  by_cases h3 : L.length < 3
  · have e : takeI 3 (L, false) = ([], L, true) := by unfold takeI; rw [if_pos h3]
    have em : (markI (L, false)).2 = true := by
      unfold markI; rw [e]; split <;> rfl
    rw [if_neg, if_neg]
    · rintro ⟨h, _⟩
      have := Mono.body _ em
      rw [h] at this; cases this
    · rintro ⟨h, _⟩
      have := congrArg List.length h
      simp at this; omega
  · have e : takeI 3 (L, false) = (L.take 3, L.drop 3, false) := by unfold takeI; rw [if_neg h3]
    by_cases hm : L.take 3 = [80, 76, 49]
    · have em : markI (L, false) = (L.drop 3, false) := by
        unfold markI
        rw [e]
        rw [if_pos ((markB_iff _ (ok.take 3)).2 hm)]
      rw [em]
      simp only [hm, true_and]
    · have em : (markI (L, false)).2 = true := by
        unfold markI
        rw [e]
        rw [if_neg (fun h => hm ((markB_iff _ (ok.take 3)).1 h))]
      rw [if_neg (fun h => hm h.1), if_neg]
      rintro ⟨h, _⟩
      have := Mono.body _ em
      rw [h] at this; cases this

/-- a code that is handed back, and whether it is one -/
def DcAns (w : World) (o : Option Cd) (e : Ending) (w' : World) : Prop := ∃ x cx y cy nv, e = .returned (.tuple #[.agg #[.slice x (o.getD ⟨[], 0, []⟩).pool.length cx, .int .i64 (o.getD ⟨[], 0, []⟩).slots, .slice y (o.getD ⟨[], 0, []⟩).ins.length cy], .bool o.isSome]) ∧ OwnP w' w.heap.size (.slice x (o.getD ⟨[], 0, []⟩).pool.length cx) (o.getD ⟨[], 0, []⟩).pool nv ∧ w'.ownsRow w.heap.size 45 2 (.slice y (o.getD ⟨[], 0, []⟩).ins.length cy) (o.getD ⟨[], 0, []⟩).ins.length (inC (o.getD ⟨[], 0, []⟩).ins) ∧
  (∀ q, (Value.slice y (o.getD ⟨[], 0, []⟩).ins.length cy).ownBlock = some q → (Value.slice x (o.getD ⟨[], 0, []⟩).pool.length cx).ownBlock ≠ some q ∧ ∀ j, (hj : j < nv.length) → nv[j].ownBlock ≠ some q) ∧ Below w.heap.size w w'

theorem DcAns.no {w w' : World} (h : Below w.heap.size w w') : DcAns w none (.returned (.tuple #[.agg #[.slice none 0 0, .int .i64 0, .slice none 0 0], .bool false])) w' :=
  ⟨none, 0, none, 0, [], rfl, OwnP.nil _ _, World.ownsRow_nil _ _ _ _, (fun q hq => by cases hq), h⟩

/-- a code out of its block, and a truth -/
theorem res_cb {fn : Func} {a u : Tmp} (h : fn.results = #[.cell a 26, .tmp u]) {tmps : Array Value} {w : World} {b : Nat} {v0 v1 v2 : Value} (ha : tmps.getD a undef = .pointer (some ⟨b, 0, none⟩))
    (g0 : w.cell? ⟨b, 0, none⟩ = some v0) (g1 : w.cell? ⟨b, 1, none⟩ = some v1) (g2 : w.cell? ⟨b, 2, none⟩ = some v2) :
    (results fn tmps).run Try.prog w = .ok (.tuple #[.agg #[v0, v1, v2], tmps.getD u undef]) w := by
  rw [Array.getD_eq_getD_getElem?] at ha
  simp [results, h, ha, go_sem, g0, g1, g2]

theorem own_below' {w w' : World} {base : Nat} {e : TypeId} {size : Nat} {v : Value} {n B : Nat} {xs : List Value} (h : w.ownsRow base e size v n xs) (hb : Below B w w') (hB : w.heap.size ≤ B) : w'.ownsRow base e size v n xs :=
  owns_blocks h (fun q hq => hb.block q (Nat.lt_of_lt_of_le (h.lt q hq).2 hB))

theorem Bys.mono {w : World} {B B' n c : Nat} {a : Option Addr} {L : List Int} (h : Bys w B a n c L) (hB : B ≤ B') : Bys w B' a n c L :=
  ⟨h.len, h.cap, h.small, h.ok, fun j hj => by obtain ⟨b, off, ha, h1, h2, hc⟩ := h.cells j hj; exact ⟨b, off, ha, by omega, h2, hc⟩⟩

theorem Touch.below {g : Nat} {w0 w w' : World} (h0 : Below w0.heap.size w0 w) (T : Touch g (g + 1) w w') (hg : w0.heap.size ≤ g) : Below w0.heap.size w0 w' := below_touch h0 T hg h0.size

set_option maxRecDepth 100000 in
set_option maxHeartbeats 6400000 in
theorem iDecode_any (a : Option Addr) (n c : Nat) (L : List Int) (w : World) (h : Bys w w.heap.size a n c L) :
    Calls Try.prog 6 #[.slice a n c] w fun e w' => DcAns w (decI L) e w' := by
  have HX := hide (decI_eq L h.ok)
  have B0 := (Below.refl w.heap.size w).alloc (Nat.le_refl _) (.cells #[.slice none 0 0, .int .i64 0, .slice none 0 0] 26)
  have B1 := B0.alloc (by simp) (.cells #[.int .i64 0, .int .i64 0, .int .i64 0, .slice a n c, .bool false] 50)
  have RR := (Row.new w #[.slice none 0 0, .int .i64 0, .slice none 0 0] 26).alloc (.cells #[.int .i64 0, .int .i64 0, .int .i64 0, .slice a n c, .bool false] 50)
  have RG := Row.new (w.alloc (.cells #[.slice none 0 0, .int .i64 0, .slice none 0 0] 26)) #[.int .i64 0, .int .i64 0, .int .i64 0, .slice a n c, .bool false] 50
  simp only [World.size_alloc] at RG
  have hI : IRs ((w.alloc (.cells #[.slice none 0 0, .int .i64 0, .slice none 0 0] 26)).alloc (.cells #[.int .i64 0, .int .i64 0, .int .i64 0, .slice a n c, .bool false] 50)) (w.heap.size + 1) 0 0 0 (L, false) := ⟨a, n, c, RG, (h.mono (by omega)).blocks (fun k hk hk2 => B1.block k hk2) B1.size⟩
  have HC := hide (rcode_any (w.heap.size + 1) 0 0 0 (L, false) _ hI)
  have hok := bodyI_ok (markI (L, false)) (markI_ok (L, false) h.ok)
  generalize bodyI (markI (L, false)) = r at HX HC hok
  obtain ⟨⟨P, sl, I⟩, s2⟩ := r
  simp only at HX hok
  have HokC := hide hok.1
  clear hok
  go_enter Try.func6, Try.ntmps6
  go_wp2_with fail
  refine (unhide HC).mono ?_
  rintro e w2 ⟨x, cx, y, cy, nv, rfl, OP2, OI2, ap2, ⟨h0, h1, h2, R2⟩, T2⟩
  simp only at OP2 OI2 ap2 R2
  simp only [World.size_alloc] at OP2 OI2
  have RR2 := RR.touch' T2 (.inl (by omega))
  have B2 := T2.below B1 (by omega)
  have z2 := T2.size
  simp only [World.size_alloc] at z2
  clear RR RG hI B0 B1 T2
  have RC3 := Row.new w2 #[.slice x P.length cx, .int .i64 sl, .slice y I.length cy] 26
  have RR3 := RR2.alloc (.cells #[.slice x P.length cx, .int .i64 sl, .slice y I.length cy] 26)
  have R3 := R2.alloc (.cells #[.slice x P.length cx, .int .i64 sl, .slice y I.length cy] 26)
  have OP3 := OP2.alloc (.cells #[.slice x P.length cx, .int .i64 sl, .slice y I.length cy] 26)
  have OI3 := World.ownsRow.alloc OI2 (.cells #[.slice x P.length cx, .int .i64 sl, .slice y I.length cy] 26)
  have B3 := B2.alloc B2.size (.cells #[.slice x P.length cx, .int .i64 sl, .slice y I.length cy] 26)
  clear RR2 R2 OP2 OI2 B2
  obtain ⟨a3, n3, k3, RG3, BY3⟩ := id R3
  obtain ⟨q0, q1, q2, q3, q4⟩ := row5 RG3
  have hn3 := BY3.len
  have hcap := BY3.cap
  have hsm := BY3.small
  obtain ⟨L2, bk⟩ := s2
  simp only at q4 hn3
  have Hn3 := hide hn3
  have hPl := (unhide HokC).1
  have hIl := (unhide HokC).2.2
  simp only at hPl hIl
  have V3 := OP3.vls rfl hPl (unhide HokC).2.1
  have I3 := iss_of_owns OI3 rfl hIl
  obtain ⟨c0, c1, c2⟩ := rowC RC3
  obtain ⟨e0, e1, e2⟩ := rowC RR3
  have ef := fun j => RR3.frozen j
  have HSH := hide (rightShape_any x y P.length cx I.length cy sl P I _ V3 I3)
  clear BY3 hn3 hcap
  cases bk with
  | true =>
    have HD := hide (show decI L = none by rw [unhide HX, if_neg]; rintro ⟨h, _⟩; cases h)
    go_wp2_with fail
    have RF := ((RR3.set 0 (.slice none 0 0)).set 1 (.int .i64 0)).set 2 (.slice none 0 0)
    simp only [List.setIfInBounds_toArray, List.set_cons_zero, List.set_cons_succ] at RF
    obtain ⟨g0, g1, g2⟩ := rowC RF
    refine bodyPost_ret (res_cb Try.results6 rfl g0 g1 g2) rfl ?_
    rw [unhide HD]
    exact DcAns.no (((B3.setCell (p := ⟨w.heap.size, 0, none⟩) (Nat.le_refl _) _).setCell (p := ⟨w.heap.size, 1, none⟩) (Nat.le_refl _) _).setCell (p := ⟨w.heap.size, 2, none⟩) (Nat.le_refl _) _)
  | false =>
    by_cases hz : n3 = 0
    · subst hz
      have hL2 : L2 = [] := List.eq_nil_of_length_eq_zero (unhide Hn3)
      generalize hsh : shapB P sl I = sh at HSH HX
      have Hsh := hide hsh
      clear hsh
      cases sh with
      | false =>
        have HD := hide (show decI L = none by rw [unhide HX, if_neg]; rintro ⟨_, h⟩; cases h)
        go_wp2_with (go_at_call 17; refine (unhide HSH).mono ?_; rintro e w4 ⟨rfl, hb4⟩; have RR4 := RR3.after hb4 (Nat.le_refl _); obtain ⟨f0, f1, f2⟩ := rowC RR4; have ff := fun j => RR4.frozen j; have B4 := B3.trans (hb4.mono B3.size))
        have RF := ((RR4.set 0 (.slice none 0 0)).set 1 (.int .i64 0)).set 2 (.slice none 0 0)
        simp only [List.setIfInBounds_toArray, List.set_cons_zero, List.set_cons_succ] at RF
        obtain ⟨g0, g1, g2⟩ := rowC RF
        refine bodyPost_ret (res_cb Try.results6 rfl g0 g1 g2) rfl ?_
        rw [unhide HD]
        exact DcAns.no (((B4.setCell (p := ⟨w.heap.size, 0, none⟩) (Nat.le_refl _) _).setCell (p := ⟨w.heap.size, 1, none⟩) (Nat.le_refl _) _).setCell (p := ⟨w.heap.size, 2, none⟩) (Nat.le_refl _) _)
      | true =>
        have HD := hide (show decI L = some ⟨P, sl, I⟩ by rw [unhide HX, if_pos]; exact ⟨by rw [hL2], rfl⟩)
        go_wp2_with (go_at_call 17; refine (unhide HSH).mono ?_; rintro e w4 ⟨rfl, hb4⟩; have RR4 := RR3.after hb4 (Nat.le_refl _); have RC4 := RC3.after hb4 (Nat.le_refl _); obtain ⟨f0, f1, f2⟩ := rowC RR4; obtain ⟨t0, t1, t2⟩ := rowC RC4; have ff := fun j => RR4.frozen j; have B4 := B3.trans (hb4.mono B3.size))
        have OP4 := OP3.blocks (w' := w4) (fun k _ hk => hb4.block k hk)
        have OI4 := own_below' OI3 hb4 (Nat.le_refl _)
        have RF := ((RR4.set 0 (.slice x P.length cx)).set 1 (.int .i64 sl)).set 2 (.slice y I.length cy)
        simp only [List.setIfInBounds_toArray, List.set_cons_zero, List.set_cons_succ] at RF
        obtain ⟨g0, g1, g2⟩ := rowC RF
        refine bodyPost_ret (res_cb Try.results6 rfl g0 g1 g2) rfl ?_
        rw [unhide HD]
        have b0 : w.heap.size < w.heap.size + 1 + 1 := by omega
        have far : ∀ q, (Value.slice y I.length cy).ownBlock = some q → q ≠ w.heap.size := fun q hq => by have := (OI4.lt q hq).1; omega
        exact ⟨x, cx, y, cy, nv, rfl, (((OP4.set ⟨w.heap.size, 0, none⟩ _ b0).set ⟨w.heap.size, 1, none⟩ _ b0).set ⟨w.heap.size, 2, none⟩ _ b0).low (by omega), ownsRow_low' (owns_setFar' (owns_setFar' (owns_setFar' OI4 ⟨w.heap.size, 0, none⟩ _ far) ⟨w.heap.size, 1, none⟩ _ far) ⟨w.heap.size, 2, none⟩ _ far) (by omega), ap2, ((B4.setCell (p := ⟨w.heap.size, 0, none⟩) (Nat.le_refl _) _).setCell (p := ⟨w.heap.size, 1, none⟩) (Nat.le_refl _) _).setCell (p := ⟨w.heap.size, 2, none⟩) (Nat.le_refl _) _⟩
    · have hpos : (0 : Int) < (n3 : Int) := by omega
      have HD := hide (show decI L = none by rw [unhide HX, if_neg]; rintro ⟨h, _⟩; injection h with h1 h2; apply hz; rw [← unhide Hn3, h1]; rfl)
      go_wp2_with fail
      have RF := ((RR3.set 0 (.slice none 0 0)).set 1 (.int .i64 0)).set 2 (.slice none 0 0)
      simp only [List.setIfInBounds_toArray, List.set_cons_zero, List.set_cons_succ] at RF
      obtain ⟨g0, g1, g2⟩ := rowC RF
      refine bodyPost_ret (res_cb Try.results6 rfl g0 g1 g2) rfl ?_
      rw [unhide HD]
      exact DcAns.no (((B3.setCell (p := ⟨w.heap.size, 0, none⟩) (Nat.le_refl _) _).setCell (p := ⟨w.heap.size, 1, none⟩) (Nat.le_refl _) _).setCell (p := ⟨w.heap.size, 2, none⟩) (Nat.le_refl _) _)

end Go.Proofs.Ytmkoidbpkhiohaa

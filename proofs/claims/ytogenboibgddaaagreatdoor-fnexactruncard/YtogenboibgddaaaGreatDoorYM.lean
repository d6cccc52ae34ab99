/-
  The program's verifier: one instruction. Own work.
-/
import Derived.Test.YtogenboibgddaaaGreatDoorMXAS
namespace Go.Proofs.YtogenboibgddaaaGreatDoor
open Go.RowKit Go.Lib
set_option linter.unusedVariables false

/-- what is said of an instruction -/
def InA (w : World) (base vb lo kb : Nat) (a b : Option Addr) (n c m d S : Nat) (bd : Nat) (PK : List Int) (k : Nat) (i : Is1) (K : List (Option Vs)) (e : Ending) (w' : World) : Prop :=
  ∃ r, e = .returned (.int .i64 r) ∧ Below base w w' ∧ ((K.getD k none = none ∧ r = 2) ∨ ∃ s, K.getD k none = some s ∧ (((stepV PK S m k i s).1 ≠ 0 ∧ r = (stepV PK S m k i s).1) ∨ ((stepV PK S m k i s).1 = 0 ∧ r = (goV (stepV PK S m k i s).2 (nextV k i) K).1 ∧ ∃ pt, Kn w' lo kb (goV (stepV PK S m k i s).2 (nextV k i) K).2 pt ∧ Row w' vb #[.slice a n c, .int .i64 S, .slice b m d, .slice (some ⟨kb, 0, none⟩) m m, .int .i64 ((max bd (max s.stack.length (stepV PK S m k i s).2.stack.length) : Nat) : Int)] 101)))

theorem Kn.far {w : World} {lo kb : Nat} {K : List (Option Vs)} {pt : List (Option Nat)} (h : Kn w lo kb K pt) (p : Addr) (v : Value) (hp : p.block < lo) (hk : kb ≠ p.block) : Kn (w.setCell p v) lo kb K pt :=
  ⟨h.row.setFar hk v, h.len, h.low, fun j s hj => by
    obtain ⟨q, h1, h2, h3⟩ := h.there j s hj
    exact ⟨q, h1, h2.far h3 p v hp⟩, h.not⟩

theorem max3 (x y z : Nat) : (if (if x < y then (y : Int) else (x : Int)) < (z : Int) then (z : Int) else if x < y then (y : Int) else (x : Int)) = ((max x (max y z) : Nat) : Int) := by
  split <;> split at * <;> omega

theorem range_arg {np S m k : Nat} {i : Is1} (h : rangeV np S m k i = true) (h0 : 0 ≤ i.arg) : argOk np S i := by
  obtain ⟨op, arg⟩ := i
  unfold rangeV at h
  refine ⟨h0, fun e => ?_, fun e => ?_, fun e => ?_⟩
  · simp only at e; subst e; simpa using h
  · simp only at e; subst e; simpa using h
  · simp only at e
    rcases e with rfl | rfl <;> simpa using h

theorem range_next {np S m k : Nat} {i : Is1} (h : rangeV np S m k i = true) (hk : k < m) (h0 : 0 ≤ i.arg) : ∀ x ∈ nextV k i, x ≤ m := by
  obtain ⟨op, arg⟩ := i
  simp only at h0
  intro x hx
  unfold rangeV at h
  unfold nextV at hx
  simp only at h hx
  by_cases e1 : op = 24 ∨ op = 25
  · rw [if_pos e1] at hx; cases hx
  rw [if_neg e1] at hx
  by_cases e2 : op = 22
  · subst e2
    simp at h hx
    omega
  rw [if_neg e2] at hx
  by_cases e3 : op = 23
  · subst e3
    simp at h hx
    omega
  rw [if_neg e3] at hx
  simp at hx
  omega

set_option maxRecDepth 100000 in
set_option maxHeartbeats 6400000 in
theorem instruction_any (w0 : World) (vb kb lo k : Nat) (a b : Option Addr) (n c m d S bd : Nat) (P : List Vl) (I : List Is1) (K : List (Option Vs)) (pt : List (Option Nat)) (aT : Addr) (w : World) (hR : Row w vb #[.slice a n c, .int .i64 S, .slice b m d, .slice (some ⟨kb, 0, none⟩) m m, .int .i64 bd] 101) (hB0 : Below w0.heap.size w0 w) (hP0 : Vls w0 a n c P) (hI0 : Iss w0 b m d I) (hk : k < m) (hop : 1 ≤ (I.getD k ⟨0, 0⟩).op ∧ (I.getD k ⟨0, 0⟩).op ≤ 25) (harg : 0 ≤ (I.getD k ⟨0, 0⟩).arg) (hK : Kn w lo kb K pt) (hm : K.length = m) (hv0 : Vok w0 aT) (hKs : ∀ j s, K.getD j none = some s → s.stack.length ≤ 100 ∧ s.slots.length = S) (hS : S ≤ 600) (hn : n ≤ 1048576) (hbd : bd ≤ 100) (hvl : w0.heap.size ≤ vb) (hkl : w0.heap.size ≤ kb) (hvk : vb ≠ kb) (hlo : lo ≤ w.heap.size) (hlov : vb < lo) :
    Calls Tryz.prog 52 #[.pointer (some ⟨vb, 0, none⟩), .int .i64 k] w fun e w' => InA w w0.heap.size vb lo kb a b n c m d S bd (P.map Vl.kind) k (I.getD k ⟨0, 0⟩) K e w' := by
  have hP := hP0.below hB0 (Nat.le_refl _)
  have hI := hI0.below hB0 (Nat.le_refl _)
  have hv := hv0.below hB0 (Nat.le_refl _)
  obtain ⟨g, off, hb, hgl, i0, i1⟩ := hI.at k hk
  subst hb
  have hsm := hI.small
  obtain ⟨q0, q1, q2, q3, q4⟩ := rowR hR
  have cK := hK.at k (by rw [hm]; exact hk)
  have hkb := hK.row.lt
  have hvb := hR.lt
  have hPn := hP.len
  have HI := hide (show ∀ W, Below w.heap.size w W → Row W vb #[.slice a n c, .int .i64 S, .slice (some ⟨g, off, none⟩) m d, .slice (some ⟨kb, 0, none⟩) m m, .int .i64 bd] 101 ∧ Vls W a n c P ∧ Iss W (some ⟨g, off, none⟩) m d I ∧ Kn W lo kb K pt ∧ Vok W aT from fun W hb => ⟨hR.after hb (Nat.le_refl _), hP.below hb (Nat.le_refl _), hI.below hb (Nat.le_refl _), hK.below hb (Nat.le_refl _), hv.below hb (Nat.le_refl _)⟩)
  have HR := hide (fun W hb => inRange_any vb a (some ⟨g, off, none⟩) n c m d S (.slice (some ⟨kb, 0, none⟩) m m) bd I k W (unhide HI W hb).1 (unhide HI W hb).2.2.1 hk hn (by omega) hop)
  have HG := hide (fun (x : Int) q t W hR hI hK => goOn_any w0.heap.size vb kb lo q k a (some ⟨g, off, none⟩) n c m d (.int .i64 S) (.int .i64 x) I K pt t W hR hI hk hop harg hK hm)
  have HI0 := hide (show ∀ W, Below w0.heap.size w0 W → Iss W (some ⟨g, off, none⟩) m d I from fun W hb => hI0.below hb (Nat.le_refl _))
  have HB0 := hide hB0
  have hps : n = P.length := hPn.symm
  clear hP0 hI0 hv0 hB0
  generalize I.getD k ⟨0, 0⟩ = i at i0 i1 hop harg HR HG
  cases hs : K.getD k none with
  | none =>
    rw [hK.not k hs] at cK
    have cK' : w.cell? ⟨kb, k, none⟩ = some (.pointer none) := cK
    have Hs := hide hs
    have ik : (k : Int) < (m : Int) := by omega
    have B0 := (Below.refl w.heap.size w).alloc (Nat.le_refl _) (.cells #[.int .i64 i.op, .int .i64 i.arg] 87)
    clear hs cK hR hP hI hK hv hKs hm
    go_enter Tryz.func52, Tryz.ntmps52
    go_wp2_with fail
    go_region
    all_goals
      go_wp2_with fail
      go_ret
      exact ⟨2, rfl, B0.drew.mono (by omega), .inl ⟨unhide Hs, rfl⟩⟩
  | some s =>
    obtain ⟨q, hq, hSt, hLo⟩ := hK.there k s hs
    obtain ⟨hs1, hs2⟩ := hKs k s hs
    rw [hq] at cK
    have cK' : w.cell? ⟨kb, k, none⟩ = some (.pointer (some ⟨q, 0, none⟩)) := cK
    have Hs := hide hs
    have ik : (k : Int) < (m : Int) := by omega
    obtain ⟨op, arg⟩ := i
    simp only at i0 i1 hop harg
    obtain ⟨h1op, h25⟩ := hop
    have B0 := ((Below.refl w.heap.size w).alloc (Nat.le_refl _) (.cells #[.int .i64 op, .int .i64 arg] 87)).drew
    have RI : Row (w.alloc (.cells #[.int .i64 op, .int .i64 arg] 87)).drew w.heap.size #[.int .i64 op, .int .i64 arg] 87 := ⟨(Row.new w #[.int .i64 op, .int .i64 arg] 87).out⟩
    have Hall := hide (show ∀ W, Below w.heap.size w W → StAt W q s ∧ StLo lo W q from fun W hb => ⟨hSt.below hb (Nat.le_refl _), hLo.below hb (Nat.le_refl _)⟩)
    have HTk := hide (fun W hb => takes_any ⟨op, arg⟩ q s aT W (unhide Hall W hb).1 (unhide HI W hb).2.2.2.2 h1op h25)
    have HBh := hide (fun W hb => behind_any vb a n c (.int .i64 S) (.slice (some ⟨g, off, none⟩) m d) (.slice (some ⟨kb, 0, none⟩) m m) (.int .i64 bd) P ⟨op, arg⟩ q s aT W (unhide HI W hb).1 (unhide HI W hb).2.1 (unhide Hall W hb).1 (unhide HI W hb).2.2.2.2 h1op h25)
    have HPC := hide (fun W => popCount_any op W h1op h25)
    have Hlow := hide (show w0.heap.size ≤ w.heap.size by omega)
    have Hlo := hide hlo
    clear hs cK hR hP hI hK hv hKs hm hq hSt hLo hlo
    go_enter Tryz.func52, Tryz.ntmps52
    go_wp2_with fail
    go_region
    have hwl : w.heap.size < (w.alloc (.cells #[.int .i64 op, .int .i64 arg] 87)).drew.heap.size := RI.lt
    obtain ⟨s1, s2⟩ := rowS RI
    have HRI := hide RI
    clear i0 i1 q0 q1 q2 q3 q4 cK' RI
    have HR1 := hide (unhide HR _ B0)
    clear HR
    generalize (w.alloc (.cells #[.int .i64 op, .int .i64 arg] 87)).drew = W1 at B0 hwl s1 s2 HRI HR1 ⊢
    by_cases hr : rangeV P.length S m k ⟨op, arg⟩ = true
    · have hr' : rangeV n S m k ⟨op, arg⟩ = true := by rw [hps]; exact hr
      have Hr := hide hr
      rw [Int.toNat_natCast, hr'] at HR1
      clear hr hr'
      go_wp2_with (first | (go_at_call 79; with_reducible refine (unhide HR1).mono ?_; rintro e w2 ⟨rfl, hb2⟩) | fail)
      have B2 := B0.trans (hb2.mono B0.size)
      obtain ⟨St2, Lo2⟩ := unhide Hall w2 B2
      obtain ⟨sa, sn, sc, sb, sm, sd, SR, j1, j2, l1, l2, l3, l4⟩ := St2
      obtain ⟨t0, t1⟩ := rowS SR
      have hsn := j1.len
      have hsb := j2.len
      have r0 := (hb2.cell (p := ⟨w.heap.size, 0, none⟩) hwl).trans s1
      have r1 := (hb2.cell (p := ⟨w.heap.size, 1, none⟩) hwl).trans s2
      have HRI2 := hide ((unhide HRI).after hb2 (Nat.le_refl _))
      have HPQ := hide (fun n0 => popCount_any op (w2.drewN n0) h1op h25)
      have HB2 := hide B2
      have Hj2 := hide j2
      have Hsn := hide hsn
      have Hsb := hide hsb
      have hsn2 : sn ≤ 200 := by omega
      have hpl := popV_le op
      clear B2 SR j1 j2 HR1 hb2 s1 s2 hsn hsb
      by_cases hp : popV op ≤ s.stack.length
      · have hnlt : ¬ ((sn : Int) < ((popV op : Nat) : Int)) := by rw [unhide Hsn] at hp; omega
        have Hp := hide hp
        have HTk2 := hide (fun W hb => unhide HTk W hb hp)
        clear hp HTk
        generalize popV op = pv at hnlt HPQ hpl
        go_quiet (first | (go_at_call 80; with_reducible refine Calls.quiet_of_same (unhide HPQ _)) | fail)
        have HB3 := hide ((unhide HB2).trans ((below_drewM w2 nq).mono (unhide HB2).size))
        have c0 : (w2.drewN nq).cell? ⟨w.heap.size, 0, none⟩ = some (.int .i64 op) := r0
        have c1 : (w2.drewN nq).cell? ⟨w.heap.size, 1, none⟩ = some (.int .i64 arg) := r1
        have d0 : (w2.drewN nq).cell? ⟨q, 0, none⟩ = some (.slice sa sn sc) := t0
        have d1 : (w2.drewN nq).cell? ⟨q, 1, none⟩ = some (.slice sb sm sd) := t1
        have HIB := hide ((unhide Hj2).below (below_drewM w2 nq) (Nat.le_refl _))
        have HRI3 := hide ((unhide HRI2).after (below_drewM w2 nq) (Nat.le_refl _))
        clear r0 r1 t0 t1
        generalize w2.drewN nq = w3 at HB3 c0 c1 d0 d1 HIB HRI3 ⊢
        have hok := range_arg (unhide Hr) harg
        have HOK := hide hok
        have HTk3 := hide (unhide HTk2 w3 (unhide HB3) (fun e => ⟨harg, by have := hok.2.2.2 (.inr e); simp only at this ⊢; omega⟩))
        clear hok HTk2
        by_cases ht : takesV ⟨op, arg⟩ s = true
        · have Ht := hide ht
          rw [ht] at HTk3
          clear ht
          go_wp2_with (first | (go_at_call 81; with_reducible refine (unhide HTk3).mono ?_; rintro e w4 ⟨rfl, hb4⟩) | fail)
          have HB4 := hide ((unhide HB3).trans (hb4.mono (unhide HB3).size))
          have hw3 : w.heap.size < w3.heap.size := (unhide HRI3).lt
          have e0 := (hb4.cell (p := ⟨w.heap.size, 0, none⟩) hw3).trans c0
          have e1 := (hb4.cell (p := ⟨w.heap.size, 1, none⟩) hw3).trans c1
          have HRI4 := hide ((unhide HRI3).after hb4 (Nat.le_refl _))
          have hq3 : q < w3.heap.size := (unhide Hall w3 (unhide HB3)).2.2.1
          have f0 := (hb4.cell (p := ⟨q, 0, none⟩) hq3).trans d0
          have f1 := (hb4.cell (p := ⟨q, 1, none⟩) hq3).trans d1
          have HIB4 := hide ((unhide HIB).below hb4 (Nat.le_refl _))
          clear c0 c1 d0 d1 hb4
          by_cases h3 : op = 3 ∧ atV s.slots arg = 0
          · have Hr2 := hide (show stepV (P.map Vl.kind) S m k ⟨op, arg⟩ s = (6, s) by
              unfold stepV
              rw [List.length_map, if_neg (by rw [unhide Hr]; decide), if_neg (by show ¬ s.stack.length < popV op; have := unhide Hp; omega), if_neg (by rw [unhide Ht]; decide), if_pos h3])
            obtain ⟨rfl, hz⟩ := h3
            obtain ⟨kk, rfl⟩ := Int.eq_ofNat_of_zero_le harg
            have hkk : kk < sm := by have := (unhide HOK).2.2.2 (.inl rfl); have := unhide Hsb; simp only at *; omega
            obtain ⟨gb, ob, hsbe, hgb, cb⟩ := (unhide HIB4).at kk hkk
            subst hsbe
            have hz' : s.slots.getD kk 0 = 0 := hz
            rw [hz'] at cb
            have ikk : (kk : Int) < (sm : Int) := by omega
            have ikk0 : (0 : Int) ≤ (kk : Int) := by omega
            clear hz hz' hkk
            go_quiet (fail)
            go_wp2_with fail
            go_ret
            exact ⟨6, rfl, ((unhide HB4).trans ((below_drewM w4 nq).mono (unhide HB4).size)).mono (unhide Hlow), .inr ⟨s, unhide Hs, .inl ⟨by rw [unhide Hr2]; simp, by rw [unhide Hr2]⟩⟩⟩
          · have Hr5 := hide (show stepV (P.map Vl.kind) S m k ⟨op, arg⟩ s = if 100 < (behindV (P.map Vl.kind) ⟨op, arg⟩ s).stack.length then (7, s) else (0, behindV (P.map Vl.kind) ⟨op, arg⟩ s) by
              unfold stepV
              rw [List.length_map, if_neg (by rw [unhide Hr]; decide), if_neg (by show ¬ s.stack.length < popV op; have := unhide Hp; omega), if_neg (by rw [unhide Ht]; decide), if_neg h3])
            have hcase : ((op == 3) = false) ∨ (op = 3 ∧ (s.slots.getD arg.toNat 0 == 0) = false) := by
              by_cases e3 : op = 3
              · exact .inr ⟨e3, beq_eq_false_iff_ne.2 (fun e => h3 ⟨e3, e⟩)⟩
              · exact .inl (beq_eq_false_iff_ne.2 e3)
            have HBh5 := hide (fun W hb => unhide HBh W hb (unhide Hp) (by rw [hps, hs2]; exact unhide HOK) (by rw [hs2]; exact hS) (by omega))
            obtain ⟨t, HT⟩ : ∃ t, t = behindV (P.map Vl.kind) ⟨op, arg⟩ s := ⟨_, rfl⟩
            rw [← HT] at Hr5 HBh5
            have HTT := hide HT
            clear h3 HT HBh
            have hHS : Hid (∀ kk : Nat, op = 3 → arg = kk → kk < sm) := hide (fun kk e ea => by have := (unhide HOK).2.2.2 (.inl e); have := unhide Hsb; simp only at *; omega)
            obtain ⟨kk, rfl⟩ := Int.eq_ofNat_of_zero_le harg
            rw [Int.toNat_natCast] at hcase
            rcases hcase with e3 | ⟨rfl, e3⟩
            · go_quiet (fail)
              -- [ tail
              have HB5 := hide ((unhide HB4).trans ((below_drewM w4 nq).mono (unhide HB4).size))
              have c0 : (w4.drewN nq).cell? ⟨w.heap.size, 0, none⟩ = some (.int .i64 op) := e0
              have c1 : (w4.drewN nq).cell? ⟨w.heap.size, 1, none⟩ = some (.int .i64 kk) := e1
              have HRI5 := hide ((unhide HRI4).after (below_drewM w4 nq) (Nat.le_refl _))
              clear e0 e1 f0 f1
              generalize w4.drewN nq = w5 at HB5 c0 c1 HRI5 ⊢
              go_wp2_with fail
              refine (unhide HBh5 w5 (unhide HB5)).mono ?_
              rintro e w6 ⟨q6, rfl, St6, hb6, lo6⟩
              have HB6 := hide ((unhide HB5).trans (hb6.mono (unhide HB5).size))
              have Hlo6 := hide (lo6 lo (Nat.le_trans (unhide Hlo) (unhide HB5).size) (unhide Hall w5 (unhide HB5)).2)
              have HSt6 := hide St6
              obtain ⟨ta, tn, tc, tb, tm, td, TR, k1, k2, m1, m2, m3, m4⟩ := St6
              obtain ⟨u0, u1⟩ := rowS TR
              have htn := k1.len
              obtain ⟨sa6, sn6, sc6, sb6, sm6, sd6, SR6, j16, _⟩ := (unhide Hall w6 (unhide HB6)).1
              obtain ⟨x0, _⟩ := rowS SR6
              have hsn6 := j16.len
              have RV6 := (unhide HI w6 (unhide HB6)).1
              obtain ⟨y0, y1, y2, y3, y4⟩ := rowR RV6
              have yf := RV6.frozen 4
              have HRV6 := hide RV6
              have hq6 : q6 ≠ vb := by
                have h61 := hlov
                have h62 := (unhide Hlo6).1
                omega
              clear hb6 lo6 k1 k2 j16 SR6 TR RV6 c0 c1 y0 y1 y2 y3
              have Htn := hide htn
              have Hsn6 := hide hsn6
              clear htn hsn6
              by_cases h7 : 100 < t.stack.length
              · have Hr7 := hide (show stepV (P.map Vl.kind) S m k ⟨op, kk⟩ s = (7, s) by rw [unhide Hr5, if_pos h7])
                have i7 : (100 : Int) < (tn : Int) := by rw [unhide Htn] at h7; omega
                clear h7
                go_wp2_with fail
                go_ret
                exact ⟨7, rfl, (unhide HB6).mono (unhide Hlow), .inr ⟨s, unhide Hs, .inl ⟨by rw [unhide Hr7]; simp, by rw [unhide Hr7]⟩⟩⟩
              · have Hr8 := hide (show stepV (P.map Vl.kind) S m k ⟨op, kk⟩ s = (0, t) by rw [unhide Hr5, if_neg h7])
                have i7 : ¬ ((100 : Int) < (tn : Int)) := by rw [unhide Htn] at h7; omega
                have Hh7 := hide h7
                clear h7
                go_wp2_with fail
                go_region
                rw [max3]
                have hmx : max bd (max sn6 tn) = max bd (max s.stack.length t.stack.length) := by rw [← unhide Hsn6, ← unhide Htn]
                generalize max bd (max sn6 tn) = mx at hmx ⊢
                have Hmx := hide hmx
                clear hmx
                have HR7 := hide ((unhide HRV6).set 4 (.int .i64 (mx : Int)))
                have B7 := (((unhide HB0).trans ((unhide HB6).mono (unhide Hlow))).setCell (p := ⟨vb, 4, none⟩) hvl (.int .i64 (mx : Int))).drew
                have B7' := (((unhide HB6).mono (unhide Hlow)).setCell (p := ⟨vb, 4, none⟩) hvl (.int .i64 (mx : Int))).drew
                have K7 := (unhide HI w6 (unhide HB6)).2.2.2.1.far ⟨vb, 4, none⟩ (.int .i64 (mx : Int)) hlov (fun e => hvk e.symm)
                have S7 := (unhide HSt6).far (unhide Hlo6) ⟨vb, 4, none⟩ (.int .i64 (mx : Int)) hlov
                have BD := (Below.refl (w6.setCell ⟨vb, 4, none⟩ (.int .i64 (mx : Int))).heap.size (w6.setCell ⟨vb, 4, none⟩ (.int .i64 (mx : Int)))).drew
                have R7 : Row (w6.setCell ⟨vb, 4, none⟩ (.int .i64 (mx : Int))).drew vb #[.slice a n c, .int .i64 S, .slice (some ⟨g, off, none⟩) m d, .slice (some ⟨kb, 0, none⟩) m m, .int .i64 mx] 101 := ⟨(unhide HR7).out⟩
                have HG7 := hide (unhide HG mx q6 t _ R7 (unhide HI0 _ B7) (K7.below BD (Nat.le_refl _)) (S7.1.below BD (Nat.le_refl _)) (S7.2.below BD (Nat.le_refl _)) (range_next (unhide Hr) hk harg) hvl hkl hvk)
                have HB7 := hide B7'
                clear B7 B7' K7 S7 BD R7 HR7 HG
                generalize (w6.setCell ⟨vb, 4, none⟩ (.int .i64 (mx : Int))).drew = w7 at HG7 HB7 ⊢
                go_wp2_with fail
                refine (unhide HG7).mono ?_
                rintro e w8 ⟨rfl, pt8, hK8, hR8, hB8⟩
                go_wp2_with fail
                go_ret
                refine ⟨_, rfl, (unhide HB7).trans hB8, .inr ⟨s, unhide Hs, .inr ⟨by rw [unhide Hr8], ?_⟩⟩⟩
                rw [unhide Hr8]
                exact ⟨rfl, pt8, hK8, by rw [← unhide Hmx]; exact hR8⟩
              -- ] tail
            · have hkk : kk < sm := unhide hHS kk rfl rfl
              obtain ⟨gb, ob, hsbe, hgb, cb⟩ := (unhide HIB4).at kk hkk
              subst hsbe
              have ikk : (kk : Int) < (sm : Int) := by omega
              have ikk0 : (0 : Int) ≤ (kk : Int) := by omega
              generalize s.slots.getD kk 0 = x at cb e3
              clear hkk
              go_quiet (fail)
              have HB5 := hide ((unhide HB4).trans ((below_drewM w4 nq).mono (unhide HB4).size))
              have c0 : (w4.drewN nq).cell? ⟨w.heap.size, 0, none⟩ = some (.int .i64 3) := e0
              have c1 : (w4.drewN nq).cell? ⟨w.heap.size, 1, none⟩ = some (.int .i64 kk) := e1
              have HRI5 := hide ((unhide HRI4).after (below_drewM w4 nq) (Nat.le_refl _))
              clear e0 e1 f0 f1
              generalize w4.drewN nq = w5 at HB5 c0 c1 HRI5 ⊢
              go_wp2_with fail
              refine (unhide HBh5 w5 (unhide HB5)).mono ?_
              rintro e w6 ⟨q6, rfl, St6, hb6, lo6⟩
              have HB6 := hide ((unhide HB5).trans (hb6.mono (unhide HB5).size))
              have Hlo6 := hide (lo6 lo (Nat.le_trans (unhide Hlo) (unhide HB5).size) (unhide Hall w5 (unhide HB5)).2)
              have HSt6 := hide St6
              obtain ⟨ta, tn, tc, tb, tm, td, TR, k1, k2, m1, m2, m3, m4⟩ := St6
              obtain ⟨u0, u1⟩ := rowS TR
              have htn := k1.len
              obtain ⟨sa6, sn6, sc6, sb6, sm6, sd6, SR6, j16, _⟩ := (unhide Hall w6 (unhide HB6)).1
              obtain ⟨x0, _⟩ := rowS SR6
              have hsn6 := j16.len
              have RV6 := (unhide HI w6 (unhide HB6)).1
              obtain ⟨y0, y1, y2, y3, y4⟩ := rowR RV6
              have yf := RV6.frozen 4
              have HRV6 := hide RV6
              have hq6 : q6 ≠ vb := by
                have h61 := hlov
                have h62 := (unhide Hlo6).1
                omega
              clear hb6 lo6 k1 k2 j16 SR6 TR RV6 c0 c1 y0 y1 y2 y3
              have Htn := hide htn
              have Hsn6 := hide hsn6
              clear htn hsn6
              by_cases h7 : 100 < t.stack.length
              · have Hr7 := hide (show stepV (P.map Vl.kind) S m k ⟨3, kk⟩ s = (7, s) by rw [unhide Hr5, if_pos h7])
                have i7 : (100 : Int) < (tn : Int) := by rw [unhide Htn] at h7; omega
                clear h7
                go_wp2_with fail
                go_ret
                exact ⟨7, rfl, (unhide HB6).mono (unhide Hlow), .inr ⟨s, unhide Hs, .inl ⟨by rw [unhide Hr7]; simp, by rw [unhide Hr7]⟩⟩⟩
              · have Hr8 := hide (show stepV (P.map Vl.kind) S m k ⟨3, kk⟩ s = (0, t) by rw [unhide Hr5, if_neg h7])
                have i7 : ¬ ((100 : Int) < (tn : Int)) := by rw [unhide Htn] at h7; omega
                have Hh7 := hide h7
                clear h7
                go_wp2_with fail
                go_region
                rw [max3]
                have hmx : max bd (max sn6 tn) = max bd (max s.stack.length t.stack.length) := by rw [← unhide Hsn6, ← unhide Htn]
                generalize max bd (max sn6 tn) = mx at hmx ⊢
                have Hmx := hide hmx
                clear hmx
                have HR7 := hide ((unhide HRV6).set 4 (.int .i64 (mx : Int)))
                have B7 := (((unhide HB0).trans ((unhide HB6).mono (unhide Hlow))).setCell (p := ⟨vb, 4, none⟩) hvl (.int .i64 (mx : Int))).drew
                have B7' := (((unhide HB6).mono (unhide Hlow)).setCell (p := ⟨vb, 4, none⟩) hvl (.int .i64 (mx : Int))).drew
                have K7 := (unhide HI w6 (unhide HB6)).2.2.2.1.far ⟨vb, 4, none⟩ (.int .i64 (mx : Int)) hlov (fun e => hvk e.symm)
                have S7 := (unhide HSt6).far (unhide Hlo6) ⟨vb, 4, none⟩ (.int .i64 (mx : Int)) hlov
                have BD := (Below.refl (w6.setCell ⟨vb, 4, none⟩ (.int .i64 (mx : Int))).heap.size (w6.setCell ⟨vb, 4, none⟩ (.int .i64 (mx : Int)))).drew
                have R7 : Row (w6.setCell ⟨vb, 4, none⟩ (.int .i64 (mx : Int))).drew vb #[.slice a n c, .int .i64 S, .slice (some ⟨g, off, none⟩) m d, .slice (some ⟨kb, 0, none⟩) m m, .int .i64 mx] 101 := ⟨(unhide HR7).out⟩
                have HG7 := hide (unhide HG mx q6 t _ R7 (unhide HI0 _ B7) (K7.below BD (Nat.le_refl _)) (S7.1.below BD (Nat.le_refl _)) (S7.2.below BD (Nat.le_refl _)) (range_next (unhide Hr) hk harg) hvl hkl hvk)
                have HB7 := hide B7'
                clear B7 B7' K7 S7 BD R7 HR7 HG
                generalize (w6.setCell ⟨vb, 4, none⟩ (.int .i64 (mx : Int))).drew = w7 at HG7 HB7 ⊢
                go_wp2_with fail
                refine (unhide HG7).mono ?_
                rintro e w8 ⟨rfl, pt8, hK8, hR8, hB8⟩
                go_wp2_with fail
                go_ret
                refine ⟨_, rfl, (unhide HB7).trans hB8, .inr ⟨s, unhide Hs, .inr ⟨by rw [unhide Hr8], ?_⟩⟩⟩
                rw [unhide Hr8]
                exact ⟨rfl, pt8, hK8, by rw [← unhide Hmx]; exact hR8⟩
        · have ht0 : takesV ⟨op, arg⟩ s = false := by simpa using ht
          have Hr2 := hide (show stepV (P.map Vl.kind) S m k ⟨op, arg⟩ s = (5, s) by
            unfold stepV
            rw [List.length_map, if_neg (by rw [unhide Hr]; decide), if_neg (by show ¬ s.stack.length < popV op; have := unhide Hp; omega), if_pos ht0])
          rw [ht0] at HTk3
          clear ht ht0
          go_wp2_with (first | (go_at_call 81; with_reducible refine (unhide HTk3).mono ?_; rintro e w4 ⟨rfl, hb4⟩) | fail)
          go_ret
          exact ⟨5, rfl, ((unhide HB3).trans (hb4.mono (unhide HB3).size)).mono (unhide Hlow), .inr ⟨s, unhide Hs, .inl ⟨by rw [unhide Hr2]; simp, by rw [unhide Hr2]⟩⟩⟩
      · have Hr2 := hide (show stepV (P.map Vl.kind) S m k ⟨op, arg⟩ s = (4, s) by unfold stepV; rw [List.length_map, if_neg (by rw [unhide Hr]; decide), if_pos (by show s.stack.length < popV op; omega)])
        have hlt : (sn : Int) < ((popV op : Nat) : Int) := by rw [unhide Hsn] at hp; omega
        clear hp
        generalize popV op = pv at hlt HPQ hpl
        go_quiet (first | (go_at_call 80; with_reducible refine Calls.quiet_of_same (unhide HPQ _)) | fail)
        go_wp2_with fail
        go_ret
        exact ⟨4, rfl, ((unhide HB2).trans ((below_drewM w2 nq).mono (unhide HB2).size)).mono (unhide Hlow), .inr ⟨s, unhide Hs, .inl ⟨by rw [unhide Hr2]; simp, by rw [unhide Hr2]⟩⟩⟩
    · have hr0 : rangeV P.length S m k ⟨op, arg⟩ = false := by simpa using hr
      have hr' : rangeV n S m k ⟨op, arg⟩ = false := by rw [hps]; exact hr0
      have Hr := hide (show stepV (P.map Vl.kind) S m k ⟨op, arg⟩ s = (3, s) by unfold stepV; rw [List.length_map, if_pos hr0])
      rw [Int.toNat_natCast, hr'] at HR1
      clear hr hr' hr0
      go_wp2_with (first | (go_at_call 79; with_reducible refine (unhide HR1).mono ?_; rintro e w2 ⟨rfl, hb2⟩) | fail)
      go_ret
      exact ⟨3, rfl, (B0.trans (hb2.mono B0.size)).mono (unhide Hlow), .inr ⟨s, unhide Hs, .inl ⟨by rw [unhide Hr]; simp, by rw [unhide Hr]⟩⟩⟩

end Go.Proofs.YtogenboibgddaaaGreatDoor

/-
  The program's verifier: the state behind an instruction that pushes. Own work.
-/
import Derived.Test.YtogenboibgddaaaGreatDoorYH
import Derived.Deep.RegionHeld3
import Derived.Deep.AppendLies
namespace Go.Proofs.YtogenboibgddaaaGreatDoor
open Go.RowKit Go.Lib
set_option linter.unusedVariables false

theorem infoI : (Tryz.prog.info? 3).map (fun i => (i.zero, i.size, i.bytes)) = some (some (.int .i64 0), 1, 8) := by kernel_rfl

theorem add_plain (B j : Nat) : (⟨B, 0, none⟩ : Addr).add j = ⟨B, j, none⟩ := by unfold Addr.add; split <;> simp_all

/-- what was laid out is still there -/
theorem news_after {w w' : World} {b B : Nat} {cs : List Value} (h : ∀ j u, cs[j]? = some u → w.cell? ((⟨b, 0, none⟩ : Addr).add j) = some u) (hb : Below B w w') (hl : b < B) : ∀ j u, cs[j]? = some u → w'.cell? ((⟨b, 0, none⟩ : Addr).add j) = some u := fun j u hu => by
  have h0 := h j u hu
  rw [add_plain] at h0 ⊢
  exact (hb.cell (p := ⟨b, j, none⟩) hl).trans h0

theorem intsV_snoc (L : List Int) (x : Int) : intsV L ++ [.int .i64 x] = intsV (L ++ [x]) := by simp [intsV]

set_option maxRecDepth 100000 in
set_option maxHeartbeats 6400000 in
/-- of what pushes something -/
theorem behind_up (vb : Nat) (a : Option Addr) (n c : Nat) (v1 v2 v3 v4 : Value) (P : List Vl) (i : Is1) (q : Nat) (s : Vs) (aT : Addr) (w : World) (hR : Row w vb #[.slice a n c, v1, v2, v3, v4] 101) (hP : Vls w a n c P) (h : StAt w q s) (hv : Vok w aT) (h0 : 1 ≤ i.op) (h1 : i.op ≤ 25) (hp : popV i.op ≤ s.stack.length) (ha : argOk n s.slots.length i) (hS : s.slots.length ≤ 600) (hH : s.stack.length ≤ 200) (ho4 : i.op ≠ 4) (hpn : pushV (P.map Vl.kind) i s ≠ 0) :
    Calls Tryz.prog 82 #[.pointer (some ⟨vb, 0, none⟩), .agg #[.int .i64 i.op, .int .i64 i.arg], .pointer (some ⟨q, 0, none⟩)] w fun e w' => StA w q (behindV (P.map Vl.kind) i s) e w' := by
  have ha' := ha
  obtain ⟨op, arg⟩ := i
  obtain ⟨hA0, hA1, hA2, hA3⟩ := ha
  simp only at h0 h1 hp hA0 hA1 hA2 hA3
  have B0 := (Below.refl w.heap.size w).alloc (Nat.le_refl _) (.cells #[.int .i64 op, .int .i64 arg] 87)
  have S0 := h.below B0 (Nat.le_refl _)
  have V0 := hv.below B0 (Nat.le_refl _)
  obtain ⟨r0, r1⟩ := rowS (Row.new w #[.int .i64 op, .int .i64 arg] 87)
  obtain ⟨k, rfl⟩ := Int.eq_ofNat_of_zero_le hA0
  have HPC := hide (fun w1 : World => popCount_any op w1 h0 h1)
  have hpl := popV_le op
  have Hst := hide S0
  obtain ⟨sa, sn, sc, sb, sm, sd, SR, i1, i2, l1, l2, l3, l4⟩ := S0
  have hn := i1.len
  have hm := i2.len
  obtain ⟨t0, t1⟩ := rowS SR
  have HLO := hide (show ∀ lo, lo ≤ w.heap.size → StLo lo w q → (∀ ad, sa = some ad → lo ≤ ad.block) ∧ ∀ ad, sb = some ad → lo ≤ ad.block from fun lo hlo hL => (hL.below B0 (Nat.le_refl _)).parts SR)
  obtain ⟨z, hz⟩ : ∃ z, sn = z + popV op := ⟨sn - popV op, by omega⟩
  have HT := hide (i1.take z (by omega))
  have HTk := hide (show s.stack.length - popV op = z by omega)
  have hsl : sn ≤ sc := l1
  have o4 : ¬ op = 4 := ho4
  have B1 := B0.drew
  have HPU := hide (pushed_any vb a n c v1 v2 v3 v4 P ⟨op, (k : Int)⟩ q s aT _ (hR.after B1 (Nat.le_refl _)) (hP.below B1 (Nat.le_refl _)) (h.below B1 (Nat.le_refl _)) (hv.below B1 (Nat.le_refl _)) h0 h1 hp ha')
  have HB := hide (show behindV (P.map Vl.kind) ⟨op, (k : Int)⟩ s = if pushV (P.map Vl.kind) ⟨op, (k : Int)⟩ s = 0 then ⟨s.stack.take z, s.slots⟩ else ⟨s.stack.take z ++ [pushV (P.map Vl.kind) ⟨op, (k : Int)⟩ s], s.slots⟩ by
    rw [← unhide HTk]; unfold behindV; rw [if_neg o4])
  generalize pushV (P.map Vl.kind) ⟨op, (k : Int)⟩ s = pu at HPU HB hpn
  have hpz : (pu == 0) = false := beq_eq_false_iff_ne.2 hpn
  have HPN := hide hpn
  clear hpn
  generalize popV op = pv at HPC hz hpl hp
  have e4 : (op == 4) = false := beq_eq_false_iff_ne.2 o4
  have iz : IntKind.i64.wrap ((sn : Int) - (pv : Int)) = (z : Int) := by
    rw [show (sn : Int) - (pv : Int) = (z : Int) by omega]
    have : z ≤ 200 := by omega
    simp [IntKind.wrap, IntKind.bits, IntKind.signed]
    omega
  have iz2 : (z : Int) ≤ (sc : Int) := by omega
  have iz3 : (0 : Int) ≤ (z : Int) := by omega
  have hz2 : z ≤ 200 := by omega
  have hql := SR.lt
  obtain ⟨L, HLe⟩ : ∃ L, L = s.stack.take z := ⟨_, rfl⟩
  rw [← HLe] at HT HB
  have HLE := hide HLe
  have HLn := hide (show L.length = z by rw [HLe, List.length_take]; omega)
  clear HLe
  have HTD := hide ((unhide HT).below (Below.refl _ _).drew (Nat.le_refl _))
  have HSL := hide (i2.below (Below.refl _ _).drew (Nat.le_refl _))
  obtain ⟨ti, hi, hz0, hz1, hz2⟩ := info_parts infoI
  have hLs : L.length ≤ 200 := by rw [unhide HLn]; omega
  clear h hv V0 hR hP hA1 hA2 hA3 hn hm hp i1 i2
  have hparts : sc = 0 ∨ (¬ (sc = 0) ∧ sa = none) ∨ (¬ (sc = 0) ∧ ∃ ad, sa = some ad) := by
    by_cases e : sc = 0
    · exact .inl e
    · cases sa with
      | none => exact .inr (.inl ⟨e, rfl⟩)
      | some ad => exact .inr (.inr ⟨e, ad, rfl⟩)
  rcases hparts with hc1 | ⟨hc0, rfl⟩ | ⟨hc0, ad, rfl⟩
  · have hcp : (sc = 0) = True := eq_true hc1
    have Hc1 := hide hc1
    clear hz hc1
    go_enter Tryz.func82, Tryz.ntmps82
    go_wp2_with fail
    go_region_held3 (fun w' => w'.cell? ⟨q, 0, none⟩ = some (.slice sa sn sc) ∧ w'.cell? ⟨w.heap.size, 0, none⟩ = some (.int .i64 op)) (first | assumption | go_keep) ((go_at_call 80; refine (unhide HPC _).mono ?_; rintro e w1 ⟨rfl, h1w⟩; rw [h1w]; clear h1w))
    go_wp2_with (go_at_call 106; refine (unhide HPU).mono ?_; rintro e w2 ⟨rfl, hb2⟩; have t2 := (hb2.cell (p := ⟨q, 1, none⟩) hql).trans t1)
    have hq2 : q < w2.heap.size := Nat.lt_of_lt_of_le hql hb2.size
    have HI2 := hide ((unhide HTD).below hb2 (Nat.le_refl _))
    have HBa := hide ((Below.refl w2.heap.size w2).alloc (Nat.le_refl _) (.cells #[.int .i64 pu] 3)).drew
    have HCl := hide (cloneI_any sa z 0 L w2.drew ⟨(unhide HI2).len, (unhide HI2).small, (unhide HI2).cells⟩)
    have HCm := hide (cloneI_any sa z 0 L _ (have I3 := (unhide HI2).below (unhide HBa) (Nat.le_refl _); ⟨I3.len, I3.small, I3.cells⟩))
    have t2a := ((unhide HBa).cell (p := ⟨q, 1, none⟩) hq2).trans t2
    have NW2 := World.news_of_block (heap_alloc_new w2 (.cells #[.int .i64 pu] 3))
    have NW3 : ∀ j u, [Value.int .i64 pu][j]? = some u → (w2.alloc (.cells #[.int .i64 pu] 3)).drew.cell? ((⟨w2.heap.size, 0, none⟩ : Addr).add j) = some u := NW2
    have hsz2 : (w2.alloc (.cells #[.int .i64 pu] 3)).drew.heap.size = w2.heap.size + 1 := by simp
    have Hsz2 := hide hsz2
    clear hsz2
    go_region_held3 (fun w' => w'.cell? ⟨q, 1, none⟩ = some (.slice sb sm sd)) (first | assumption | go_keep)
      (first
        | (go_at_call 107; refine (unhide HCl).mono ?_; rintro e w5 ⟨x5, c5, rfl, ow5, hb5⟩; have t5 := (hb5.cell (p := ⟨q, 1, none⟩) hq2).trans t2; have hq5 : q < w5.heap.size := Nat.lt_of_lt_of_le hq2 hb5.size; have BA5 := (Below.refl w5.heap.size w5).alloc (Nat.le_refl _) (.cells #[.int .i64 pu] 3); have t6 := BA5.cell (p := ⟨q, 1, none⟩) hq5 |>.trans t5; have ow6 := World.ownsRow.alloc ow5 (.cells #[.int .i64 pu] 3); have NW := World.news_of_block (heap_alloc_new w5 (.cells #[.int .i64 pu] 3)); have z5 : w2.heap.size ≤ (w5.alloc (.cells #[.int .i64 pu] 3)).heap.size := Nat.le_trans hb5.size BA5.size; have BZ : Below w2.heap.size w2 (w5.alloc (.cells #[.int .i64 pu] 3)) := ((Below.refl _ _).drew.trans hb5).trans (BA5.mono hb5.size); have own := ow5.lt)
        | (go_at_call 107; refine (unhide HCm).mono ?_; rintro e w5 ⟨x5, c5, rfl, ow5, hb5⟩; have hq5 : q < w5.heap.size := Nat.lt_of_lt_of_le hq2 (Nat.le_trans (unhide HBa).size hb5.size); have t5 := (hb5.cell (p := ⟨q, 1, none⟩) (Nat.lt_of_lt_of_le hq2 (unhide HBa).size)).trans t2a; have NW := news_after NW3 hb5 (by rw [unhide Hsz2]; exact Nat.lt_succ_self _); have z5 : w2.heap.size ≤ w5.heap.size := Nat.le_trans (unhide HBa).size hb5.size; have ow6 : w5.ownsRow w2.heap.size 3 1 (.slice x5 L.length c5) L.length (intsV L) := ownsRow_low' ow5 (unhide HBa).size; have BZ : Below w2.heap.size w2 w5 := (unhide HBa).trans (hb5.mono (unhide HBa).size); have own := ow6.lt)
        | (refine step_append_lies _ rfl _ _ 77 rfl w2.heap.size 3 ti (.int .i64 0) 1 8 Tryz.underlying77 hi hz0 hz1 hz2 rfl (by decide) (.slice x5 L.length c5) L.length (intsV L) rfl ow6 ⟨w5.heap.size, 0, none⟩ 1 1 [.int .i64 pu] rfl rfl NW (by intro u hu; simp at hu; subst hu; rfl) (by decide) (by unfold maxLen; omega) (by omega) z5 _ rfl ?_; intro g7 cap7 w7 O7 hgrow hat hlt7; have t7 := (hgrow.cell_far ⟨q, 1, none⟩ (Nat.lt_of_lt_of_le hq5 BA5.size) (fun e => by have h8 : w2.heap.size ≤ q := (own q e.symm).1; omega)).trans t6; have HG := hide hgrow; clear hgrow hat)
        | (refine step_append_lies _ rfl _ _ 77 rfl w2.heap.size 3 ti (.int .i64 0) 1 8 Tryz.underlying77 hi hz0 hz1 hz2 rfl (by decide) (.slice x5 L.length c5) L.length (intsV L) rfl ow6 ⟨w2.heap.size, 0, none⟩ 1 1 [.int .i64 pu] rfl rfl NW (by intro u hu; simp at hu; subst hu; rfl) (by decide) (by unfold maxLen; omega) (by omega) z5 _ rfl ?_; intro g7 cap7 w7 O7 hgrow hat hlt7; have t7 := (hgrow.cell_far ⟨q, 1, none⟩ hq5 (fun e => by have h8 : w2.heap.size ≤ q := (own q e.symm).1; omega)).trans t5; have HG := hide hgrow; clear hgrow hat)
        | fail)
    all_goals
      go_wp2_with fail
      go_ret
      rw [unhide HB, if_neg (unhide HPN)]
      have O8 := O7
      rw [intsV_snoc] at O8
      have B7 : Below w2.heap.size w2 w7 := BZ.grown (unhide HG) z5 (fun q' hq' => (own q' hq').1)
      have BW : Below w.heap.size w w2 := B1.trans (hb2.mono B1.size)
      have BA := (Below.refl w7.heap.size w7).alloc (Nat.le_refl _) (.cells #[.slice (some ⟨g7, 0, none⟩) (L.length + 1) cap7, .slice sb sm sd] 132)
      have BX := (BW.trans (B7.mono BW.size)).trans (BA.mono (BW.trans (B7.mono BW.size)).size)
      have IL := (ints_own O8 (by omega)).below BA (Nat.le_refl _)
      have IS := (((unhide HSL).below hb2 (Nat.le_refl _)).below B7 (Nat.le_refl _)).below BA (Nat.le_refl _)
      have hcap : L.length + 1 ≤ cap7 ∧ cap7 ≤ maxLen := by
        rcases O7.2 with ⟨_, h0⟩ | ⟨g, cap, cur, hv, _, _, h1, h2, _⟩
        · omega
        · simp only [Value.slice.injEq] at hv
          obtain ⟨hv1, _, rfl⟩ := hv
          exact ⟨h1, h2⟩
      exact ⟨w7.heap.size, rfl, ⟨_, _, _, _, _, _, Row.new w7 _ _, IL, IS, hcap.1, l2, hcap.2, l4⟩, BX, fun lo hlo hL => StLo.mk' (Row.new w7 _ _) (by have := BW.size; have := B7.size; omega) (fun ad e => by cases e; have := (O7.lt g7 rfl).1; have := BW.size; show lo ≤ g7; omega) (unhide HLO lo hlo hL).2⟩
  ·
    clear hz
    go_enter Tryz.func82, Tryz.ntmps82
    go_wp2_with fail
    go_region_held3 (fun w' => w'.cell? ⟨q, 0, none⟩ = some (.slice none sn sc) ∧ w'.cell? ⟨w.heap.size, 0, none⟩ = some (.int .i64 op)) (first | assumption | go_keep) ((go_at_call 80; refine (unhide HPC _).mono ?_; rintro e w1 ⟨rfl, h1w⟩; rw [h1w]; clear h1w))
    go_wp2_with (go_at_call 106; refine (unhide HPU).mono ?_; rintro e w2 ⟨rfl, hb2⟩; have t2 := (hb2.cell (p := ⟨q, 1, none⟩) hql).trans t1)
    have hq2 : q < w2.heap.size := Nat.lt_of_lt_of_le hql hb2.size
    have HI2 := hide ((unhide HTD).below hb2 (Nat.le_refl _))
    have HBa := hide ((Below.refl w2.heap.size w2).alloc (Nat.le_refl _) (.cells #[.int .i64 pu] 3)).drew
    have HCl := hide (cloneI_any none z sc L w2.drew ⟨(unhide HI2).len, (unhide HI2).small, (unhide HI2).cells⟩)
    have HCm := hide (cloneI_any none z sc L _ (have I3 := (unhide HI2).below (unhide HBa) (Nat.le_refl _); ⟨I3.len, I3.small, I3.cells⟩))
    have t2a := ((unhide HBa).cell (p := ⟨q, 1, none⟩) hq2).trans t2
    have NW2 := World.news_of_block (heap_alloc_new w2 (.cells #[.int .i64 pu] 3))
    have NW3 : ∀ j u, [Value.int .i64 pu][j]? = some u → (w2.alloc (.cells #[.int .i64 pu] 3)).drew.cell? ((⟨w2.heap.size, 0, none⟩ : Addr).add j) = some u := NW2
    have hsz2 : (w2.alloc (.cells #[.int .i64 pu] 3)).drew.heap.size = w2.heap.size + 1 := by simp
    have Hsz2 := hide hsz2
    clear hsz2
    go_region_held3 (fun w' => w'.cell? ⟨q, 1, none⟩ = some (.slice sb sm sd)) (first | assumption | go_keep)
      (first
        | (go_at_call 107; refine (unhide HCl).mono ?_; rintro e w5 ⟨x5, c5, rfl, ow5, hb5⟩; have t5 := (hb5.cell (p := ⟨q, 1, none⟩) hq2).trans t2; have hq5 : q < w5.heap.size := Nat.lt_of_lt_of_le hq2 hb5.size; have BA5 := (Below.refl w5.heap.size w5).alloc (Nat.le_refl _) (.cells #[.int .i64 pu] 3); have t6 := BA5.cell (p := ⟨q, 1, none⟩) hq5 |>.trans t5; have ow6 := World.ownsRow.alloc ow5 (.cells #[.int .i64 pu] 3); have NW := World.news_of_block (heap_alloc_new w5 (.cells #[.int .i64 pu] 3)); have z5 : w2.heap.size ≤ (w5.alloc (.cells #[.int .i64 pu] 3)).heap.size := Nat.le_trans hb5.size BA5.size; have BZ : Below w2.heap.size w2 (w5.alloc (.cells #[.int .i64 pu] 3)) := ((Below.refl _ _).drew.trans hb5).trans (BA5.mono hb5.size); have own := ow5.lt)
        | (go_at_call 107; refine (unhide HCm).mono ?_; rintro e w5 ⟨x5, c5, rfl, ow5, hb5⟩; have hq5 : q < w5.heap.size := Nat.lt_of_lt_of_le hq2 (Nat.le_trans (unhide HBa).size hb5.size); have t5 := (hb5.cell (p := ⟨q, 1, none⟩) (Nat.lt_of_lt_of_le hq2 (unhide HBa).size)).trans t2a; have NW := news_after NW3 hb5 (by rw [unhide Hsz2]; exact Nat.lt_succ_self _); have z5 : w2.heap.size ≤ w5.heap.size := Nat.le_trans (unhide HBa).size hb5.size; have ow6 : w5.ownsRow w2.heap.size 3 1 (.slice x5 L.length c5) L.length (intsV L) := ownsRow_low' ow5 (unhide HBa).size; have BZ : Below w2.heap.size w2 w5 := (unhide HBa).trans (hb5.mono (unhide HBa).size); have own := ow6.lt)
        | (refine step_append_lies _ rfl _ _ 77 rfl w2.heap.size 3 ti (.int .i64 0) 1 8 Tryz.underlying77 hi hz0 hz1 hz2 rfl (by decide) (.slice x5 L.length c5) L.length (intsV L) rfl ow6 ⟨w5.heap.size, 0, none⟩ 1 1 [.int .i64 pu] rfl rfl NW (by intro u hu; simp at hu; subst hu; rfl) (by decide) (by unfold maxLen; omega) (by omega) z5 _ rfl ?_; intro g7 cap7 w7 O7 hgrow hat hlt7; have t7 := (hgrow.cell_far ⟨q, 1, none⟩ (Nat.lt_of_lt_of_le hq5 BA5.size) (fun e => by have h8 : w2.heap.size ≤ q := (own q e.symm).1; omega)).trans t6; have HG := hide hgrow; clear hgrow hat)
        | (refine step_append_lies _ rfl _ _ 77 rfl w2.heap.size 3 ti (.int .i64 0) 1 8 Tryz.underlying77 hi hz0 hz1 hz2 rfl (by decide) (.slice x5 L.length c5) L.length (intsV L) rfl ow6 ⟨w2.heap.size, 0, none⟩ 1 1 [.int .i64 pu] rfl rfl NW (by intro u hu; simp at hu; subst hu; rfl) (by decide) (by unfold maxLen; omega) (by omega) z5 _ rfl ?_; intro g7 cap7 w7 O7 hgrow hat hlt7; have t7 := (hgrow.cell_far ⟨q, 1, none⟩ hq5 (fun e => by have h8 : w2.heap.size ≤ q := (own q e.symm).1; omega)).trans t5; have HG := hide hgrow; clear hgrow hat)
        | fail)
    all_goals
      go_wp2_with fail
      go_ret
      rw [unhide HB, if_neg (unhide HPN)]
      have O8 := O7
      rw [intsV_snoc] at O8
      have B7 : Below w2.heap.size w2 w7 := BZ.grown (unhide HG) z5 (fun q' hq' => (own q' hq').1)
      have BW : Below w.heap.size w w2 := B1.trans (hb2.mono B1.size)
      have BA := (Below.refl w7.heap.size w7).alloc (Nat.le_refl _) (.cells #[.slice (some ⟨g7, 0, none⟩) (L.length + 1) cap7, .slice sb sm sd] 132)
      have BX := (BW.trans (B7.mono BW.size)).trans (BA.mono (BW.trans (B7.mono BW.size)).size)
      have IL := (ints_own O8 (by omega)).below BA (Nat.le_refl _)
      have IS := (((unhide HSL).below hb2 (Nat.le_refl _)).below B7 (Nat.le_refl _)).below BA (Nat.le_refl _)
      have hcap : L.length + 1 ≤ cap7 ∧ cap7 ≤ maxLen := by
        rcases O7.2 with ⟨_, h0⟩ | ⟨g, cap, cur, hv, _, _, h1, h2, _⟩
        · omega
        · simp only [Value.slice.injEq] at hv
          obtain ⟨hv1, _, rfl⟩ := hv
          exact ⟨h1, h2⟩
      exact ⟨w7.heap.size, rfl, ⟨_, _, _, _, _, _, Row.new w7 _ _, IL, IS, hcap.1, l2, hcap.2, l4⟩, BX, fun lo hlo hL => StLo.mk' (Row.new w7 _ _) (by have := BW.size; have := B7.size; omega) (fun ad e => by cases e; have := (O7.lt g7 rfl).1; have := BW.size; show lo ≤ g7; omega) (unhide HLO lo hlo hL).2⟩
  ·
    clear hz
    go_enter Tryz.func82, Tryz.ntmps82
    go_wp2_with fail
    go_region_held3 (fun w' => w'.cell? ⟨q, 0, none⟩ = some (.slice (some ad) sn sc) ∧ w'.cell? ⟨w.heap.size, 0, none⟩ = some (.int .i64 op)) (first | assumption | go_keep) ((go_at_call 80; refine (unhide HPC _).mono ?_; rintro e w1 ⟨rfl, h1w⟩; rw [h1w]; clear h1w))
    go_wp2_with (go_at_call 106; refine (unhide HPU).mono ?_; rintro e w2 ⟨rfl, hb2⟩; have t2 := (hb2.cell (p := ⟨q, 1, none⟩) hql).trans t1)
    have hq2 : q < w2.heap.size := Nat.lt_of_lt_of_le hql hb2.size
    have HI2 := hide ((unhide HTD).below hb2 (Nat.le_refl _))
    have HBa := hide ((Below.refl w2.heap.size w2).alloc (Nat.le_refl _) (.cells #[.int .i64 pu] 3)).drew
    have HCl := hide (cloneI_any (some ad) z sc L w2.drew ⟨(unhide HI2).len, (unhide HI2).small, (unhide HI2).cells⟩)
    have HCm := hide (cloneI_any (some ad) z sc L _ (have I3 := (unhide HI2).below (unhide HBa) (Nat.le_refl _); ⟨I3.len, I3.small, I3.cells⟩))
    have t2a := ((unhide HBa).cell (p := ⟨q, 1, none⟩) hq2).trans t2
    have NW2 := World.news_of_block (heap_alloc_new w2 (.cells #[.int .i64 pu] 3))
    have NW3 : ∀ j u, [Value.int .i64 pu][j]? = some u → (w2.alloc (.cells #[.int .i64 pu] 3)).drew.cell? ((⟨w2.heap.size, 0, none⟩ : Addr).add j) = some u := NW2
    have hsz2 : (w2.alloc (.cells #[.int .i64 pu] 3)).drew.heap.size = w2.heap.size + 1 := by simp
    have Hsz2 := hide hsz2
    clear hsz2
    go_region_held3 (fun w' => w'.cell? ⟨q, 1, none⟩ = some (.slice sb sm sd)) (first | assumption | go_keep)
      (first
        | (go_at_call 107; refine (unhide HCl).mono ?_; rintro e w5 ⟨x5, c5, rfl, ow5, hb5⟩; have t5 := (hb5.cell (p := ⟨q, 1, none⟩) hq2).trans t2; have hq5 : q < w5.heap.size := Nat.lt_of_lt_of_le hq2 hb5.size; have BA5 := (Below.refl w5.heap.size w5).alloc (Nat.le_refl _) (.cells #[.int .i64 pu] 3); have t6 := BA5.cell (p := ⟨q, 1, none⟩) hq5 |>.trans t5; have ow6 := World.ownsRow.alloc ow5 (.cells #[.int .i64 pu] 3); have NW := World.news_of_block (heap_alloc_new w5 (.cells #[.int .i64 pu] 3)); have z5 : w2.heap.size ≤ (w5.alloc (.cells #[.int .i64 pu] 3)).heap.size := Nat.le_trans hb5.size BA5.size; have BZ : Below w2.heap.size w2 (w5.alloc (.cells #[.int .i64 pu] 3)) := ((Below.refl _ _).drew.trans hb5).trans (BA5.mono hb5.size); have own := ow5.lt)
        | (go_at_call 107; refine (unhide HCm).mono ?_; rintro e w5 ⟨x5, c5, rfl, ow5, hb5⟩; have hq5 : q < w5.heap.size := Nat.lt_of_lt_of_le hq2 (Nat.le_trans (unhide HBa).size hb5.size); have t5 := (hb5.cell (p := ⟨q, 1, none⟩) (Nat.lt_of_lt_of_le hq2 (unhide HBa).size)).trans t2a; have NW := news_after NW3 hb5 (by rw [unhide Hsz2]; exact Nat.lt_succ_self _); have z5 : w2.heap.size ≤ w5.heap.size := Nat.le_trans (unhide HBa).size hb5.size; have ow6 : w5.ownsRow w2.heap.size 3 1 (.slice x5 L.length c5) L.length (intsV L) := ownsRow_low' ow5 (unhide HBa).size; have BZ : Below w2.heap.size w2 w5 := (unhide HBa).trans (hb5.mono (unhide HBa).size); have own := ow6.lt)
        | (refine step_append_lies _ rfl _ _ 77 rfl w2.heap.size 3 ti (.int .i64 0) 1 8 Tryz.underlying77 hi hz0 hz1 hz2 rfl (by decide) (.slice x5 L.length c5) L.length (intsV L) rfl ow6 ⟨w5.heap.size, 0, none⟩ 1 1 [.int .i64 pu] rfl rfl NW (by intro u hu; simp at hu; subst hu; rfl) (by decide) (by unfold maxLen; omega) (by omega) z5 _ rfl ?_; intro g7 cap7 w7 O7 hgrow hat hlt7; have t7 := (hgrow.cell_far ⟨q, 1, none⟩ (Nat.lt_of_lt_of_le hq5 BA5.size) (fun e => by have h8 : w2.heap.size ≤ q := (own q e.symm).1; omega)).trans t6; have HG := hide hgrow; clear hgrow hat)
        | (refine step_append_lies _ rfl _ _ 77 rfl w2.heap.size 3 ti (.int .i64 0) 1 8 Tryz.underlying77 hi hz0 hz1 hz2 rfl (by decide) (.slice x5 L.length c5) L.length (intsV L) rfl ow6 ⟨w2.heap.size, 0, none⟩ 1 1 [.int .i64 pu] rfl rfl NW (by intro u hu; simp at hu; subst hu; rfl) (by decide) (by unfold maxLen; omega) (by omega) z5 _ rfl ?_; intro g7 cap7 w7 O7 hgrow hat hlt7; have t7 := (hgrow.cell_far ⟨q, 1, none⟩ hq5 (fun e => by have h8 : w2.heap.size ≤ q := (own q e.symm).1; omega)).trans t5; have HG := hide hgrow; clear hgrow hat)
        | fail)
    all_goals
      go_wp2_with fail
      go_ret
      rw [unhide HB, if_neg (unhide HPN)]
      have O8 := O7
      rw [intsV_snoc] at O8
      have B7 : Below w2.heap.size w2 w7 := BZ.grown (unhide HG) z5 (fun q' hq' => (own q' hq').1)
      have BW : Below w.heap.size w w2 := B1.trans (hb2.mono B1.size)
      have BA := (Below.refl w7.heap.size w7).alloc (Nat.le_refl _) (.cells #[.slice (some ⟨g7, 0, none⟩) (L.length + 1) cap7, .slice sb sm sd] 132)
      have BX := (BW.trans (B7.mono BW.size)).trans (BA.mono (BW.trans (B7.mono BW.size)).size)
      have IL := (ints_own O8 (by omega)).below BA (Nat.le_refl _)
      have IS := (((unhide HSL).below hb2 (Nat.le_refl _)).below B7 (Nat.le_refl _)).below BA (Nat.le_refl _)
      have hcap : L.length + 1 ≤ cap7 ∧ cap7 ≤ maxLen := by
        rcases O7.2 with ⟨_, h0⟩ | ⟨g, cap, cur, hv, _, _, h1, h2, _⟩
        · omega
        · simp only [Value.slice.injEq] at hv
          obtain ⟨hv1, _, rfl⟩ := hv
          exact ⟨h1, h2⟩
      exact ⟨w7.heap.size, rfl, ⟨_, _, _, _, _, _, Row.new w7 _ _, IL, IS, hcap.1, l2, hcap.2, l4⟩, BX, fun lo hlo hL => StLo.mk' (Row.new w7 _ _) (by have := BW.size; have := B7.size; omega) (fun ad e => by cases e; have := (O7.lt g7 rfl).1; have := BW.size; show lo ≤ g7; omega) (unhide HLO lo hlo hL).2⟩

end Go.Proofs.YtogenboibgddaaaGreatDoor

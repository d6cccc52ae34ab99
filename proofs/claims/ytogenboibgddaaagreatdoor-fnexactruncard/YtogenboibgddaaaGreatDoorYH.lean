/-
  The program's verifier: the state behind an instruction. Own work.
-/
import Derived.Test.YtogenboibgddaaaGreatDoorMXAR
namespace Go.Proofs.YtogenboibgddaaaGreatDoor
open Go.RowKit Go.Lib
set_option linter.unusedVariables false

/-- a state that was made -/
def StA (w : World) (q : Nat) (s : Vs) (e : Ending) (w' : World) : Prop := ∃ q', e = .returned (.pointer (some ⟨q', 0, none⟩)) ∧ StAt w' q' s ∧ Below w.heap.size w w' ∧ ∀ lo, lo ≤ w.heap.size → StLo lo w q → StLo lo w' q'

theorem popV_le (op : Int) : popV op ≤ 2 := by
  unfold popV
  split
  · omega
  split <;> omega

set_option maxRecDepth 100000 in
set_option maxHeartbeats 6400000 in
/-- of stores, and of what pushes nothing -/
theorem behind_low (vb : Nat) (a : Option Addr) (n c : Nat) (v1 v2 v3 v4 : Value) (P : List Vl) (i : Is1) (q : Nat) (s : Vs) (aT : Addr) (w : World) (hR : Row w vb #[.slice a n c, v1, v2, v3, v4] 101) (hP : Vls w a n c P) (h : StAt w q s) (hv : Vok w aT) (h0 : 1 ≤ i.op) (h1 : i.op ≤ 25) (hp : popV i.op ≤ s.stack.length) (ha : argOk n s.slots.length i) (hS : s.slots.length ≤ 600) (hH : s.stack.length ≤ 200) (hlow : i.op = 4 ∨ pushV (P.map Vl.kind) i s = 0) :
    Calls Tryz.prog 82 #[.pointer (some ⟨vb, 0, none⟩), .agg #[.int .i64 i.op, .int .i64 i.arg], .pointer (some ⟨q, 0, none⟩)] w fun e w' => StA w q (behindV (P.map Vl.kind) i s) e w' := by
  have ha' := ha
  obtain ⟨op, arg⟩ := i
  obtain ⟨hA0, hA1, hA2, hA3⟩ := ha
  simp only at h0 h1 hp hA0 hA1 hA2 hA3
  have B0 := (Below.refl w.heap.size w).alloc (Nat.le_refl _) (.cells #[.int .i64 op, .int .i64 arg] 87)
  have S0 := h.below B0 (Nat.le_refl _)
  have V0 := hv.below B0 (Nat.le_refl _)
  obtain ⟨r0, r1⟩ := rowS (Row.new w #[.int .i64 op, .int .i64 arg] 87)
  obtain ⟨k, rfl⟩ := Int.eq_ofNat_of_zero_le hA0
  have HPC := hide (fun w1 : World => popCount_any op w1 h0 h1)
  have hpl := popV_le op
  have Hst := hide S0
  obtain ⟨sa, sn, sc, sb, sm, sd, SR, i1, i2, l1, l2, l3, l4⟩ := S0
  have hn := i1.len
  have hm := i2.len
  obtain ⟨t0, t1⟩ := rowS SR
  have HLO := hide (show ∀ lo, lo ≤ w.heap.size → StLo lo w q → (∀ ad, sa = some ad → lo ≤ ad.block) ∧ ∀ ad, sb = some ad → lo ≤ ad.block from fun lo hlo hL => (hL.below B0 (Nat.le_refl _)).parts SR)
  obtain ⟨z, hz⟩ : ∃ z, sn = z + popV op := ⟨sn - popV op, by omega⟩
  have HT := hide (i1.take z (by omega))
  have HTk := hide (show s.stack.length - popV op = z by omega)
  have hsl : sn ≤ sc := l1
  by_cases o4 : op = 4
  · clear hlow
    have HB := hide (show behindV (P.map Vl.kind) ⟨op, (k : Int)⟩ s = ⟨s.stack.take z, s.slots.set k (topV s.stack)⟩ by
      rw [← unhide HTk]; subst o4; rfl)
    obtain ⟨g, off, hsa, hgl, hcg⟩ := i1.at 0 (by subst o4; have : popV 4 = 1 := rfl; omega)
    subst hsa
    have HPos := hide (show 0 < sn by have : popV 4 = 1 := rfl; subst o4; omega)
    have HTop := hide (fun W (hW : StAt W q s) => top_any q s W hW)
    generalize popV op = pv at HPC hz hpl hp
    subst o4
    have iz : IntKind.i64.wrap ((sn : Int) - (pv : Int)) = (z : Int) := by
      rw [show (sn : Int) - (pv : Int) = (z : Int) by omega]
      have : z ≤ 200 := by omega
      simp [IntKind.wrap, IntKind.bits, IntKind.signed]
      omega
    have hc0 : ¬ (sc = 0) := by
      have := unhide HPos
      omega
    have iz2 : (z : Int) ≤ (sc : Int) := by omega
    have iz3 : (0 : Int) ≤ (z : Int) := by omega
    have hql := SR.lt
    have hwl : w.heap.size < (w.alloc (.cells #[.int .i64 4, .int .i64 k] 87)).heap.size := by simp
    have Hi2 := hide (i2.below (Below.refl _ _).drew.drew (Nat.le_refl _))
    have hkm : k < sm := by have := hA3 (.inr rfl); omega
    have hm6 : sm ≤ 600 := by omega
    have HTD := hide ((unhide HT).below (Below.refl _ _).drew.drew (Nat.le_refl _))
    have HSD := hide ((unhide Hst).below (Below.refl _ _).drew.drew (Nat.le_refl _))
    generalize topV s.stack = tp at HTop HB
    clear h hv V0 hR hP hA1 hA2 hA3 hn hm hp hz i1 i2
    go_enter Tryz.func82, Tryz.ntmps82
    go_wp2_with fail
    go_region_held3 (fun w' => w'.cell? ⟨q, 0, none⟩ = some (.slice (some ⟨g, off, none⟩) sn sc) ∧ w'.cell? ⟨w.heap.size, 0, none⟩ = some (.int .i64 4)) (first | assumption | go_keep) ((go_at_call 80; refine (unhide HPC _).mono ?_; rintro e w1 ⟨rfl, h1w⟩; rw [h1w]; clear h1w))
    go_wp2_with fail
    go_region_held3 (fun w' => w'.cell? ⟨q, 1, none⟩ = some (.slice sb sm sd) ∧ w'.cell? ⟨w.heap.size, 1, none⟩ = some (.int .i64 k)) (first | assumption | go_keep)
      (first
        | (go_at_call 103; refine (unhide HTop _ (unhide HSD)).mono ?_; rintro e w2 ⟨rfl, hb2⟩; have t2 := (hb2.cell (p := ⟨q, 1, none⟩) hql).trans t1; have r2 := (hb2.cell (p := ⟨w.heap.size, 1, none⟩) hwl).trans r1)
        | (go_at_call 105; refine (withSlot_any sb sm sd k s.slots tp w2 ((unhide Hi2).below hb2 (Nat.le_refl _)) hkm l2 l4 hm6).mono ?_; rintro e w3 ⟨x3, c3, rfl, i3, lc3, mc3, ad3, hb3⟩; have HA3 := hide ad3; clear ad3; have t3 := (hb3.cell (p := ⟨q, 1, none⟩) (Nat.lt_of_lt_of_le hql hb2.size)).trans t2; have r3 := (hb3.cell (p := ⟨w.heap.size, 1, none⟩) (Nat.lt_of_lt_of_le hwl hb2.size)).trans r2))
    go_wp2_with fail
    go_ret
    rw [unhide HB]
    have hls : (s.slots.set k tp).length = s.slots.length := by simp
    rw [hls] at i3 lc3
    have BA := (Below.refl w3.heap.size w3).alloc (Nat.le_refl _) (.cells #[.slice (some ⟨g, off, none⟩) z sc, .slice x3 s.slots.length c3] 132)
    have IT := (((unhide HTD).below hb2 (Nat.le_refl _)).below hb3 (Nat.le_refl _)).below BA (Nat.le_refl _)
    have BW : Below w.heap.size w w2 := B0.drew.drew.trans (hb2.mono B0.size)
    exact ⟨w3.heap.size, rfl, ⟨some ⟨g, off, none⟩, z, sc, x3, _, c3, Row.new w3 _ _, IT, i3.below BA (Nat.le_refl _), by omega, lc3, l3, mc3⟩, (BW.trans (hb3.mono BW.size)).trans (BA.mono (BW.trans (hb3.mono BW.size)).size), fun lo hlo hL => StLo.mk' (Row.new w3 _ _) (by have := BW.size; have := hb3.size; omega) (unhide HLO lo hlo hL).1 (fun ad e => by
      rcases unhide HA3 with h3 | h3
      · exact (unhide HLO lo hlo hL).2 ad (h3 ▸ e)
      · have := h3 ad e; have := BW.size; omega)⟩
  · have B1 := B0.drew
    have HPU := hide (pushed_any vb a n c v1 v2 v3 v4 P ⟨op, (k : Int)⟩ q s aT _ (hR.after B1 (Nat.le_refl _)) (hP.below B1 (Nat.le_refl _)) (h.below B1 (Nat.le_refl _)) (hv.below B1 (Nat.le_refl _)) h0 h1 hp ha')
    have HB := hide (show behindV (P.map Vl.kind) ⟨op, (k : Int)⟩ s = if pushV (P.map Vl.kind) ⟨op, (k : Int)⟩ s = 0 then ⟨s.stack.take z, s.slots⟩ else ⟨s.stack.take z ++ [pushV (P.map Vl.kind) ⟨op, (k : Int)⟩ s], s.slots⟩ by
      rw [← unhide HTk]; unfold behindV; rw [if_neg o4])
    have hpz := hlow.resolve_left o4
    generalize pushV (P.map Vl.kind) ⟨op, (k : Int)⟩ s = pu at HPU HB hpz
    clear hlow
    generalize popV op = pv at HPC hz hpl hp
    have e4 : (op == 4) = false := beq_eq_false_iff_ne.2 o4
    have iz : IntKind.i64.wrap ((sn : Int) - (pv : Int)) = (z : Int) := by
      rw [show (sn : Int) - (pv : Int) = (z : Int) by omega]
      have : z ≤ 200 := by omega
      simp [IntKind.wrap, IntKind.bits, IntKind.signed]
      omega
    have iz2 : (z : Int) ≤ (sc : Int) := by omega
    have iz3 : (0 : Int) ≤ (z : Int) := by omega
    have hz2 : z ≤ 200 := by omega
    have hql := SR.lt
    have HTD := hide ((unhide HT).below (Below.refl _ _).drew (Nat.le_refl _))
    have HSL := hide (i2.below (Below.refl _ _).drew (Nat.le_refl _))
    clear h hv V0 hR hP hA1 hA2 hA3 hn hm hp i1 i2
    have hparts : sc = 0 ∨ (¬ (sc = 0) ∧ sa = none) ∨ (¬ (sc = 0) ∧ ∃ ad, sa = some ad) := by
      by_cases e : sc = 0
      · exact .inl e
      · cases sa with
        | none => exact .inr (.inl ⟨e, rfl⟩)
        | some ad => exact .inr (.inr ⟨e, ad, rfl⟩)
    · subst hpz
      rcases hparts with hc1 | ⟨hc0, rfl⟩ | ⟨hc0, ad, rfl⟩
      · have hcp : (sc = 0) = True := eq_true hc1
        have Hc1 := hide hc1
        clear hz hc1
        go_enter Tryz.func82, Tryz.ntmps82
        go_wp2_with fail
        go_region_held3 (fun w' => w'.cell? ⟨q, 0, none⟩ = some (.slice sa sn sc) ∧ w'.cell? ⟨w.heap.size, 0, none⟩ = some (.int .i64 op)) (first | assumption | go_keep) ((go_at_call 80; refine (unhide HPC _).mono ?_; rintro e w1 ⟨rfl, h1w⟩; rw [h1w]; clear h1w))
        go_wp2_with (go_at_call 106; refine (unhide HPU).mono ?_; rintro e w2 ⟨rfl, hb2⟩; have t2 := (hb2.cell (p := ⟨q, 1, none⟩) hql).trans t1)
        go_ret
        have hc1 := unhide Hc1
        subst hc1
        rw [unhide HB, if_pos trivial]
        have BA := (Below.refl w2.heap.size w2).alloc (Nat.le_refl _) (.cells #[.slice sa z 0, .slice sb sm sd] 132)
        have BW : Below w.heap.size w w2 := B1.trans (hb2.mono B1.size)
        exact ⟨w2.heap.size, rfl, ⟨_, _, _, _, _, _, Row.new w2 _ _, ((unhide HTD).below hb2 (Nat.le_refl _)).below BA (Nat.le_refl _), ((unhide HSL).below hb2 (Nat.le_refl _)).below BA (Nat.le_refl _), by omega, l2, l3, l4⟩, BW.trans (BA.mono BW.size), fun lo hlo hL => StLo.mk' (Row.new w2 _ _) (by have := BW.size; omega) (unhide HLO lo hlo hL).1 (unhide HLO lo hlo hL).2⟩

      · clear hz
        go_enter Tryz.func82, Tryz.ntmps82
        go_wp2_with fail
        go_region_held3 (fun w' => w'.cell? ⟨q, 0, none⟩ = some (.slice none sn sc) ∧ w'.cell? ⟨w.heap.size, 0, none⟩ = some (.int .i64 op)) (first | assumption | go_keep) ((go_at_call 80; refine (unhide HPC _).mono ?_; rintro e w1 ⟨rfl, h1w⟩; rw [h1w]; clear h1w))
        go_wp2_with (go_at_call 106; refine (unhide HPU).mono ?_; rintro e w2 ⟨rfl, hb2⟩; have t2 := (hb2.cell (p := ⟨q, 1, none⟩) hql).trans t1)
        go_ret
        rw [unhide HB, if_pos trivial]
        have BA := (Below.refl w2.heap.size w2).alloc (Nat.le_refl _) (.cells #[.slice none z sc, .slice sb sm sd] 132)
        have BW : Below w.heap.size w w2 := B1.trans (hb2.mono B1.size)
        exact ⟨w2.heap.size, rfl, ⟨_, _, _, _, _, _, Row.new w2 _ _, ((unhide HTD).below hb2 (Nat.le_refl _)).below BA (Nat.le_refl _), ((unhide HSL).below hb2 (Nat.le_refl _)).below BA (Nat.le_refl _), by omega, l2, l3, l4⟩, BW.trans (BA.mono BW.size), fun lo hlo hL => StLo.mk' (Row.new w2 _ _) (by have := BW.size; omega) (unhide HLO lo hlo hL).1 (unhide HLO lo hlo hL).2⟩

      · clear hz
        go_enter Tryz.func82, Tryz.ntmps82
        go_wp2_with fail
        go_region_held3 (fun w' => w'.cell? ⟨q, 0, none⟩ = some (.slice (some ad) sn sc) ∧ w'.cell? ⟨w.heap.size, 0, none⟩ = some (.int .i64 op)) (first | assumption | go_keep) ((go_at_call 80; refine (unhide HPC _).mono ?_; rintro e w1 ⟨rfl, h1w⟩; rw [h1w]; clear h1w))
        go_wp2_with (go_at_call 106; refine (unhide HPU).mono ?_; rintro e w2 ⟨rfl, hb2⟩; have t2 := (hb2.cell (p := ⟨q, 1, none⟩) hql).trans t1)
        go_ret
        rw [unhide HB, if_pos trivial]
        have BA := (Below.refl w2.heap.size w2).alloc (Nat.le_refl _) (.cells #[.slice (some ad) z sc, .slice sb sm sd] 132)
        have BW : Below w.heap.size w w2 := B1.trans (hb2.mono B1.size)
        exact ⟨w2.heap.size, rfl, ⟨_, _, _, _, _, _, Row.new w2 _ _, ((unhide HTD).below hb2 (Nat.le_refl _)).below BA (Nat.le_refl _), ((unhide HSL).below hb2 (Nat.le_refl _)).below BA (Nat.le_refl _), by omega, l2, l3, l4⟩, BW.trans (BA.mono BW.size), fun lo hlo hL => StLo.mk' (Row.new w2 _ _) (by have := BW.size; omega) (unhide HLO lo hlo hL).1 (unhide HLO lo hlo hL).2⟩


end Go.Proofs.YtogenboibgddaaaGreatDoor

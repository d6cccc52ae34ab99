/-
  Operations asked for their marks. Own work.
-/
import Derived.Test.YthdoakeocaegkaaDoorXJ
namespace Go.Proofs.YthdoakeocaegkaaDoor
open Go.RowKit
set_option linter.unusedVariables false

set_option maxRecDepth 100000 in
set_option maxHeartbeats 3200000 in
theorem heldOpS_any (lo hi : Nat) (a : Option Addr) (n c : Nat) (k : Nat) (w : World) (h : OwnO w lo hi a n c (marksO k n)) (hk : k + 5 * n ≤ 1073741824) :
    Calls Tryd.prog 8 #[.slice a n c, .int .i64 k] w fun e w' => e = .returned (.int .i64 ((k + 5 * n : Nat) : Int)) ∧ Below w.heap.size w w' := by
  have hl := marksO_len k n
  have t1 := h.top
  go_enter Tryd.func8, Tryd.ntmps8
  go_wp2
  go_loopw [1, 5] (fun q i wr => ∃ (j : Nat) (z : Int), j ≤ n ∧ i = .int .i64 j ∧ q = .int .i64 z ∧ z = ((k + 5 * j : Nat) : Int) ∧ Below w.heap.size w wr) (fun _ i _ => n - (intOf i).toNat)
  case atStart => exact ⟨0, k, Nat.zero_le _, rfl, rfl, by simp, Below.refl _ _⟩
  case round =>
    obtain ⟨j, z, hj, rfl, rfl, hz, hb⟩ := hrel
    by_cases hlt : j < n
    · obtain ⟨g, rfl, hgl, hgh, hgs⟩ := h.form (by omega)
      have hgr : g < wr.heap.size := Nat.lt_of_lt_of_le hgs hb.size
      have ilt : (j : Int) < (n : Int) := by omega
      have z0 : 0 ≤ z := by omega
      have z1 : z + 5 ≤ 1073741824 := by omega
      obtain ⟨c0, c1, c2, c3, c4⟩ := (h.below hb t1).cells j (by omega)
      have em : (marksO k n)[j]'(by omega) = mkO k j := by simp [marksO]
      rw [em] at c0 c1 c2 c3 c4
      have e0 : (mkO k j).kind = z := hz.symm
      have e1 : (mkO k j).name = markS (z + 1).toNat := by show markS (k + 5 * j + 1) = _; rw [show (z + 1).toNat = k + 5 * j + 1 by omega]
      have e2 : (mkO k j).other = markS (z + 1 + 1).toNat := by show markS (k + 5 * j + 2) = _; rw [show (z + 1 + 1).toNat = k + 5 * j + 2 by omega]
      have e3 : (mkO k j).text = markS (z + 1 + 1 + 1).toNat := by show markS (k + 5 * j + 3) = _; rw [show (z + 1 + 1 + 1).toNat = k + 5 * j + 3 by omega]
      have e4 : (mkO k j).num = z + 1 + 1 + 1 + 1 := by show ((k + 5 * j + 4 : Nat) : Int) = _; omega
      rw [e0] at c0
      rw [e1] at c1
      rw [e2] at c2
      rw [e3] at c3
      rw [e4] at c4
      have Hz := hide hz
      have Hk := hide hlt
      clear em e0 e1 e2 e3 e4 hz
      go_wp2_with fail
      go_region_held3 (fun w' => w'.cell? ⟨g, j * 5 + 1, none⟩ = some (.string (markS (z + 1).toNat))) (go_keep)
        ((go_at_call 14; refine (markText_int _ _ (by omega) (by omega)).mono ?_; rintro e w1 ⟨rfl, hb1⟩; have q1 := (hb1.cell (p := ⟨g, j * 5 + 1, none⟩) hgr).trans c1; have q2 := (hb1.cell (p := ⟨g, j * 5 + 2, none⟩) hgr).trans c2; have q3 := (hb1.cell (p := ⟨g, j * 5 + 3, none⟩) hgr).trans c3; have q4 := (hb1.cell (p := ⟨g, j * 5 + 4, none⟩) hgr).trans c4; have hg1 : g < w1.heap.size := Nat.lt_of_lt_of_le hgr hb1.size))
      have E1 := hb.drew.trans (hb1.mono hb.size)
      clear c0 c1 c2 c3 c4 hb1 q1 hb
      go_wp2_with fail
      go_region_held3 (fun w' => w'.cell? ⟨g, j * 5 + 2, none⟩ = some (.string (markS (z + 1 + 1).toNat))) (go_keep)
        ((go_at_call 14; refine (markText_int _ _ (by omega) (by omega)).mono ?_; rintro e w2 ⟨rfl, hb2⟩; have r2 := (hb2.cell (p := ⟨g, j * 5 + 2, none⟩) hg1).trans q2; have r3 := (hb2.cell (p := ⟨g, j * 5 + 3, none⟩) hg1).trans q3; have r4 := (hb2.cell (p := ⟨g, j * 5 + 4, none⟩) hg1).trans q4; have hg2 : g < w2.heap.size := Nat.lt_of_lt_of_le hg1 hb2.size))
      have E2 := E1.drew.trans (hb2.mono E1.size)
      clear q2 q3 q4 hb2 r2 E1
      go_wp2_with fail
      go_region_held3 (fun w' => w'.cell? ⟨g, j * 5 + 3, none⟩ = some (.string (markS (z + 1 + 1 + 1).toNat))) (go_keep)
        ((go_at_call 14; refine (markText_int _ _ (by omega) (by omega)).mono ?_; rintro e w3 ⟨rfl, hb3⟩; have s3 := (hb3.cell (p := ⟨g, j * 5 + 3, none⟩) hg2).trans r3; have s4 := (hb3.cell (p := ⟨g, j * 5 + 4, none⟩) hg2).trans r4))
      have E3 := E2.drew.trans (hb3.mono E2.size)
      clear r3 r4 hb3 s3 E2
      go_wp2_with fail
      go_roundw
      case rel => exact ⟨j + 1, z + 1 + 1 + 1 + 1 + 1, unhide Hk, by go_num, by go_num, by have := unhide Hz; omega, E3⟩
      case measure => have := unhide Hk; simp [intOf]; omega
    · have e : j = n := by omega
      subst e
      go_wp2
      go_ret
      exact ⟨by rw [hz]; rfl, hb⟩

end Go.Proofs.YthdoakeocaegkaaDoor

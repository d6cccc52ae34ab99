/-
  The model's verifier: what instructions take. Own work.
-/
import Derived.Test.YtogenboibgddaaaGreatDoorYO
namespace Go.Proofs.YtogenboibgddaaaGreatDoor
open Go.RowKit Go.Lib
set_option linter.unusedVariables false

set_option maxRecDepth 100000 in
set_option maxHeartbeats 3200000 in
theorem sRange_any (a b : Option Addr) (n c m d S : Nat) (I : List Is1) (k : Nat) (w : World) (hI : Iss w b m d I) (hk : k < m) (hn : n ≤ 1048576) (hop : 1 ≤ (I.getD k ⟨0, 0⟩).op ∧ (I.getD k ⟨0, 0⟩).op ≤ 25) :
    Calls Tryz.prog 63 #[.agg #[.slice a n c, .int .i64 S, .slice b m d], .int .i64 k] w fun e w' => e = .returned (.bool (rangeV n S m k (I.getD k ⟨0, 0⟩))) ∧ Below w.heap.size w w' := by
  obtain ⟨g, off, hb, hgl, i0, i1⟩ := hI.at k hk
  subst hb
  have hsm := hI.small
  generalize I.getD k ⟨0, 0⟩ = i at i0 i1 hop
  obtain ⟨op, arg⟩ := i
  simp only at i0 i1 hop
  have ik : (k : Int) < (m : Int) := by omega
  have B1 := (Below.refl w.heap.size w).alloc (Nat.le_refl _) (.cells #[.slice a n c, .int .i64 S, .slice (some ⟨g, off, none⟩) m d] 39)
  have B2 := B1.alloc B1.size (.cells #[.int .i64 op, .int .i64 arg] 87)
  have j0 := (B1.cell (p := ⟨g, off + k * 2, none⟩) hgl).trans i0
  have j1 := (B1.cell (p := ⟨g, off + k * 2 + 1, none⟩) hgl).trans i1
  clear hI i0 i1
  by_cases h1 : op = 1
  · subst h1
    have HX := hide (show rangeV n S m k ⟨1, arg⟩ = decide (arg < n) from rfl)
    go_enter Tryz.func63, Tryz.ntmps63
    go_wp2_with fail
    go_ret
    rw [unhide HX]
    exact ⟨rfl, B2⟩
  by_cases h2 : op = 2
  · subst h2
    have HX := hide (show rangeV n S m k ⟨2, arg⟩ = decide (arg ≤ 5) by show decide (arg < 6) = _; congr 1; apply propext; omega)
    go_enter Tryz.func63, Tryz.ntmps63
    go_wp2_with fail
    go_ret
    rw [unhide HX]
    exact ⟨rfl, B2⟩
  by_cases h3 : op = 3 ∨ op = 4
  · have HX := hide (show rangeV n S m k ⟨op, arg⟩ = decide (arg < S) by unfold rangeV; rw [if_neg h1, if_neg h2, if_pos h3])
    rcases h3 with rfl | rfl
    all_goals
      go_enter Tryz.func63, Tryz.ntmps63
      go_wp2_with fail
      go_ret
      rw [unhide HX]
      exact ⟨rfl, B2⟩
  by_cases h22 : op = 22 ∨ op = 23
  · have HX := hide (show rangeV n S m k ⟨op, arg⟩ = decide ((k : Int) < arg ∧ arg < m) by unfold rangeV; rw [if_neg h1, if_neg h2, if_neg h3, if_pos h22])
    by_cases hka : (k : Int) < arg
    · have HY := hide (show rangeV n S m k ⟨op, arg⟩ = decide (arg < m) by rw [unhide HX]; simp [hka])
      clear HX h1 h2 h3
      rcases h22 with rfl | rfl
      all_goals
        go_enter Tryz.func63, Tryz.ntmps63
        go_wp2_with fail
        go_ret
        rw [unhide HY]
        exact ⟨rfl, B2⟩
    · have HY := hide (show rangeV n S m k ⟨op, arg⟩ = false by rw [unhide HX]; simp [hka])
      have dka : decide ((k : Int) < arg) = false := decide_eq_false hka
      clear HX h1 h2 h3
      rcases h22 with rfl | rfl
      all_goals
        go_enter Tryz.func63, Tryz.ntmps63
        go_wp2_with fail
        go_ret
        rw [unhide HY]
        exact ⟨rfl, B2⟩
  · have HX := hide (show rangeV n S m k ⟨op, arg⟩ = true by unfold rangeV; rw [if_neg h1, if_neg h2, if_neg h3, if_neg h22])
    have e1 : (op == 1) = false := beq_eq_false_iff_ne.2 h1
    have e2 : (op == 2) = false := beq_eq_false_iff_ne.2 h2
    have e3 : (op == 3) = false := beq_eq_false_iff_ne.2 (fun e => h3 (.inl e))
    have e4 : (op == 4) = false := beq_eq_false_iff_ne.2 (fun e => h3 (.inr e))
    have e22 : (op == 22) = false := beq_eq_false_iff_ne.2 (fun e => h22 (.inl e))
    have e23 : (op == 23) = false := beq_eq_false_iff_ne.2 (fun e => h22 (.inr e))
    clear h1 h2 h3 h22
    go_enter Tryz.func63, Tryz.ntmps63
    go_wp2_with fail
    go_ret
    rw [unhide HX]
    exact ⟨rfl, B2⟩

/-- what an instruction takes and pushes, as the model says it -/
def takesM (PK : List Int) (i : Is1) (slots : List Int) : List Int × Int :=
  if i.op = 1 then ([], atV PK i.arg) else if i.op = 2 then ([], attrT i.arg) else if i.op = 3 then ([], atV slots i.arg) else if i.op = 4 then ([-1], 0)
  else if i.op = 22 ∨ i.op = 24 then ([], 0) else if i.op = 23 then ([1], 0) else if i.op = 25 then ([4], 0) else rwV (i.op + 3)

set_option maxRecDepth 100000 in
set_option maxHeartbeats 6400000 in
theorem sTakes_any (a b : Option Addr) (n c m d : Nat) (sV bV : Value) (kn : Bool) (P : List Vl) (i : Is1) (sl : List Int) (ta tb : Option Addr) (tn tc tm td : Nat) (w : World) (hP : Vls w a n c P) (hs : Ints w tb tm td sl) (h0 : 1 ≤ i.op) (h1 : i.op ≤ 25) (ha : argOk n sl.length i) :
    Calls Tryz.prog 64 #[.agg #[.slice a n c, sV, bV], .agg #[.int .i64 i.op, .int .i64 i.arg], .agg #[.bool kn, .slice ta tn tc, .slice tb tm td]] w fun e w' => LnA w (takesM (P.map Vl.kind) i sl) e w' := by
  obtain ⟨op, arg⟩ := i
  obtain ⟨hA0, hA1, hA2, hA3⟩ := ha
  simp only at h0 h1 hA0 hA1 hA2 hA3
  obtain ⟨k, rfl⟩ := Int.eq_ofNat_of_zero_le hA0
  have hlen := hs.len
  have B1 := (Below.refl w.heap.size w).alloc (Nat.le_refl _) (.cells #[.slice a n c, sV, bV] 39)
  have B2 := B1.alloc B1.size (.cells #[.int .i64 op, .int .i64 k] 87)
  have B3 := B2.alloc B2.size (.cells #[.bool kn, .slice ta tn tc, .slice tb tm td] 79)
  have none_ok : ∀ W, Ints W none 0 0 ([] : List Int) := fun W => ⟨rfl, by decide, fun j hj => absurd hj (by simp)⟩
  by_cases e1 : op = 1
  · subst e1
    have hkn : k < n := by have := hA1 rfl; omega
    have HX := hide (show takesM (P.map Vl.kind) ⟨1, (k : Int)⟩ sl = ([], (P.map Vl.kind).getD k 0) from rfl)
    obtain ⟨g, off, hae, hgl, c0⟩ := hP.at k hkn
    subst hae
    have d0 := (B3.cell (p := ⟨g, off + k * 4, none⟩) hgl).trans c0
    generalize (P.map Vl.kind).getD k 0 = x at d0 HX
    have ik : (k : Int) < (n : Int) := by omega
    clear hP hs c0 hA0 hA1 hA2 hA3
    go_enter Tryz.func64, Tryz.ntmps64
    go_wp2_with fail
    go_region
    all_goals
      go_wp2_with fail
      exact bodyPost_ret (v := .tuple #[.slice none 0 0, .int .i64 x]) (by simp [results, Tryz.results64, go_sem]) rfl ⟨none, 0, by rw [unhide HX]; rfl, by rw [unhide HX]; exact none_ok _, fun ad e => (by cases e), B3.drew⟩
  by_cases e2 : op = 2
  · subst e2
    have HA := hide (fun W => sAttr_any (k : Int) W)
    have HX := hide (show takesM (P.map Vl.kind) ⟨2, (k : Int)⟩ sl = ([], attrT k) from rfl)
    generalize attrT (k : Int) = x at HA HX
    clear hP hs hA0 hA1 hA2 hA3
    go_enter Tryz.func64, Tryz.ntmps64
    go_wp2_with fail
    with_reducible refine (unhide HA _).mono ?_
    rintro e w4 ⟨rfl, hw4⟩
    rw [hw4]
    clear hw4
    go_wp2_with fail
    exact bodyPost_ret (v := .tuple #[.slice none 0 0, .int .i64 x]) (by simp [results, Tryz.results64, go_sem]) rfl ⟨none, 0, by rw [unhide HX]; rfl, by rw [unhide HX]; exact none_ok _, fun ad e => (by cases e), B3⟩
  by_cases e3 : op = 3
  · subst e3
    have hkn : k < tm := by have := hA3 (.inl rfl); omega
    have HX := hide (show takesM (P.map Vl.kind) ⟨3, (k : Int)⟩ sl = ([], sl.getD k 0) from rfl)
    obtain ⟨g, off, hae, hgl, c0⟩ := hs.at k hkn
    subst hae
    have d0 := (B3.cell (p := ⟨g, off + k, none⟩) hgl).trans c0
    generalize sl.getD k 0 = x at d0 HX
    have ik : (k : Int) < (tm : Int) := by omega
    clear hP hs c0 hA0 hA1 hA2 hA3 hlen
    go_enter Tryz.func64, Tryz.ntmps64
    go_wp2_with fail
    go_region
    all_goals
      go_wp2_with fail
      exact bodyPost_ret (v := .tuple #[.slice none 0 0, .int .i64 x]) (by simp [results, Tryz.results64, go_sem]) rfl ⟨none, 0, by rw [unhide HX]; rfl, by rw [unhide HX]; exact none_ok _, fun ad e => (by cases e), B3.drew⟩
  clear hP hs hA0 hA1 hA2 hA3 hlen
  by_cases e4 : op = 4
  · subst e4
    go_enter Tryz.func64, Tryz.ntmps64
    go_wp2_with fail
    exact bodyPost_ret (v := .tuple #[.slice (some ⟨w.heap.size + 1 + 1 + 1, 0, none⟩) 1 1, .int .i64 0]) (by simp [results, Tryz.results64, go_sem]) rfl ⟨some ⟨w.heap.size + 1 + 1 + 1, 0, none⟩, 1, rfl, ints_new _ _ (by simp) [-1] _ _ (by decide), fun ad e => (by cases e; show w.heap.size ≤ w.heap.size + 1 + 1 + 1; omega), B3.alloc B3.size _⟩
  by_cases e23 : op = 23
  · subst e23
    go_enter Tryz.func64, Tryz.ntmps64
    go_wp2_with fail
    exact bodyPost_ret (v := .tuple #[.slice (some ⟨w.heap.size + 1 + 1 + 1, 0, none⟩) 1 1, .int .i64 0]) (by simp [results, Tryz.results64, go_sem]) rfl ⟨some ⟨w.heap.size + 1 + 1 + 1, 0, none⟩, 1, rfl, ints_new _ _ (by simp) [1] _ _ (by decide), fun ad e => (by cases e; show w.heap.size ≤ w.heap.size + 1 + 1 + 1; omega), B3.alloc B3.size _⟩
  by_cases e25 : op = 25
  · subst e25
    go_enter Tryz.func64, Tryz.ntmps64
    go_wp2_with fail
    exact bodyPost_ret (v := .tuple #[.slice (some ⟨w.heap.size + 1 + 1 + 1, 0, none⟩) 1 1, .int .i64 0]) (by simp [results, Tryz.results64, go_sem]) rfl ⟨some ⟨w.heap.size + 1 + 1 + 1, 0, none⟩, 1, rfl, ints_new _ _ (by simp) [4] _ _ (by decide), fun ad e => (by cases e; show w.heap.size ≤ w.heap.size + 1 + 1 + 1; omega), B3.alloc B3.size _⟩
  by_cases e22 : op = 22 ∨ op = 24
  · have HX := hide (show takesM (P.map Vl.kind) ⟨op, (k : Int)⟩ sl = ([], 0) by rcases e22 with rfl | rfl <;> rfl)
    rcases e22 with rfl | rfl
    all_goals
      go_enter Tryz.func64, Tryz.ntmps64
      go_wp2_with fail
      exact bodyPost_ret (v := .tuple #[.slice none 0 0, .int .i64 0]) (by simp [results, Tryz.results64, go_sem]) rfl ⟨none, 0, by rw [unhide HX]; rfl, by rw [unhide HX]; exact none_ok _, fun ad e => (by cases e), B3⟩
  · have HX := hide (show takesM (P.map Vl.kind) ⟨op, (k : Int)⟩ sl = rwV (op + 3) by
      unfold takesM
      rw [if_neg (by show ¬ op = 1; omega), if_neg (by show ¬ op = 2; omega), if_neg (by show ¬ op = 3; omega), if_neg (by show ¬ op = 4; omega), if_neg (by show ¬ (op = 22 ∨ op = 24); omega), if_neg (by show ¬ op = 23; omega), if_neg (by show ¬ op = 25; omega)])
    have HR := hide (fun W => sRow_any (op + 3) W (by omega) (by omega))
    generalize rwV (op + 3) = r at HX HR
    have f1 : (op == 1) = false := beq_eq_false_iff_ne.2 e1
    have f2 : (op == 2) = false := beq_eq_false_iff_ne.2 e2
    have f3 : (op == 3) = false := beq_eq_false_iff_ne.2 e3
    have f4 : (op == 4) = false := beq_eq_false_iff_ne.2 e4
    have f22 : (op == 22) = false := beq_eq_false_iff_ne.2 (fun e => e22 (.inl e))
    have f24 : (op == 24) = false := beq_eq_false_iff_ne.2 (fun e => e22 (.inr e))
    have f23 : (op == 23) = false := beq_eq_false_iff_ne.2 e23
    have f25 : (op == 25) = false := beq_eq_false_iff_ne.2 e25
    have w1 : wrap64 (wrap64 (11 + op) - 8) = op + 3 := by unfold wrap64; omega
    have w2 : wrap64 (wrap64 (8 + op) - 5) = op + 3 := by unfold wrap64; omega
    clear e1 e2 e3 e4 e22 e23 e25
    by_cases e7 : op ≤ 7
    · go_enter Tryz.func64, Tryz.ntmps64
      go_wp2_with fail
      rw [show 8 + op - 5 = op + 3 by omega]
      with_reducible refine (unhide HR _).mono ?_
      rintro e w4 ⟨x, c4, rfl, i4, hx4, hb4⟩
      have hb5 := B3.trans (hb4.mono B3.size)
      go_wp2_with fail
      exact bodyPost_ret (v := .tuple #[.slice x r.1.length c4, .int .i64 r.2]) (by simp [results, Tryz.results64, go_sem]) rfl ⟨x, c4, by rw [unhide HX], by rw [unhide HX]; exact i4, fun ad e => Nat.le_trans B3.size (hx4 ad e), hb5⟩
    · go_enter Tryz.func64, Tryz.ntmps64
      go_wp2_with fail
      rw [show 11 + op - 8 = op + 3 by omega]
      with_reducible refine (unhide HR _).mono ?_
      rintro e w4 ⟨x, c4, rfl, i4, hx4, hb4⟩
      have hb5 := B3.trans (hb4.mono B3.size)
      go_wp2_with fail
      exact bodyPost_ret (v := .tuple #[.slice x r.1.length c4, .int .i64 r.2]) (by simp [results, Tryz.results64, go_sem]) rfl ⟨x, c4, by rw [unhide HX], by rw [unhide HX]; exact i4, fun ad e => Nat.le_trans B3.size (hx4 ad e), hb5⟩

end Go.Proofs.YtogenboibgddaaaGreatDoor

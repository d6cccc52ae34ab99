/-
  FnExactParseScript: the law's walk. Own work.
-/
import Derived.Test.YthdoakeocaegkaaDoorXK
namespace Go.Proofs.YthdoakeocaegkaaDoor
open Go.RowKit
set_option linter.unusedVariables false

theorem ofL_size (l : List UInt8) : (ofL l).size = l.length := by rw [← toL_size, toL_ofL]

theorem opW_ok (word r : List UInt8) : (opW word r).name.size ≤ r.length ∧ (opW word r).other.size ≤ r.length ∧ (opW word r).text.size ≤ r.length := by
  have h1 := cutP_le r
  have h2 := cutP_le (cutP r).2
  have hn : noB.size = 0 := rfl
  unfold opW
  repeat' split
  all_goals
    simp only [ofL_size, hn]
    omega

/-- what is read holds no text that is longer than the script -/
theorem script_ok {t : List UInt8} {os : List Op1} (h : scriptR t = some os) (ht : t.length ≤ 1048576) : okO os ∧ os.length ≤ 400 := by
  unfold scriptR at h
  split at h
  · cases h
  split at h
  · cases h
  rename_i h4
  cases h
  refine ⟨fun o ho => ?_, by rw [List.length_map]; omega⟩
  obtain ⟨l, hl, rfl⟩ := List.mem_map.1 ho
  have hl' : l ∈ splitC 10 t := by
    unfold linesL at hl
    split at hl
    · exact List.dropLast_subset _ hl
    · exact hl
  have h5 := splitC_le hl'
  have h6 := cutP_le l
  have h7 := opW_ok (cutP l).1 (cutP l).2
  unfold maxLen
  show (opW (cutP l).1 (cutP l).2).name.size ≤ _ ∧ (opW (cutP l).1 (cutP l).2).other.size ≤ _ ∧ (opW (cutP l).1 (cutP l).2).text.size ≤ _
  omega

/-- both answers in one form -/
theorem ScA.form {w w' : World} {r : Option (List Op1)} {e : Ending} (h : ScA w r e w') (hok : ∀ os, r = some os → okO os) : ∃ x c, e = .returned (.tuple #[.slice x (r.getD []).length c, .bool r.isSome]) ∧ OwnO w' w.heap.size w'.heap.size x (r.getD []).length c (r.getD []) ∧ Below w.heap.size w w' := by
  obtain ⟨hb, h⟩ := h
  cases r with
  | none =>
    exact ⟨none, 0, h, OwnO.of (World.ownsRow_nil _ _ _ _) (fun t ht => by cases ht), hb⟩
  | some os =>
    obtain ⟨x, c, he, ho⟩ := h
    exact ⟨x, c, he, OwnO.of ho (hok os rfl), hb⟩

set_option maxRecDepth 100000 in
set_option maxHeartbeats 6400000 in
theorem fnExactParseScript_walk (t : ByteArray) (w : World) (hm : Mxl w) (htt : t.size ≤ maxLen) :
    Calls Tryd.prog 3 #[.string t] w fun e w' => e = .returned (.bool true) ∧ Below w.heap.size w w' := by
  unfold maxLen at htt
  by_cases hl : 1048576 < t.size
  · have il : (1048576 : Int) < (t.size : Int) := by omega
    go_enter Tryd.func3, Tryd.ntmps3
    go_wp2_with fail
    go_ret
    exact ⟨rfl, Below.refl _ _⟩
  have il : ¬ ((1048576 : Int) < (t.size : Int)) := by omega
  have ht : t.size ≤ 1048576 := by omega
  clear hl
  have hok : ∀ os, scriptR (toL t) = some os → okO os := fun os h => (script_ok h (by rw [toL_size]; exact ht)).1
  have hn : ((scriptR (toL t)).getD []).length ≤ 400 := by
    cases h : scriptR (toL t) with
    | none => simp
    | some os => exact (script_ok h (by rw [toL_size]; exact ht)).2
  have HSP := hide (fun W => (sScript_any t W ht).mono (fun e w' h => ScA.form h hok))
  have HI := hide (fun W (hW : Below w.heap.size w W) => (iScript_any t W ht (hm.below hW (Nat.le_refl _))).mono (fun e w' h => ScA.form h hok))
  generalize (scriptR (toL t)).isSome = o at HSP HI
  generalize (scriptR (toL t)).getD [] = T at HSP HI hn
  clear hok hm
  go_enter Tryd.func3, Tryd.ntmps3
  go_wp2_with fail
  refine (unhide HSP _).mono ?_
  rintro e w1 ⟨x, cx, rfl, OW, B1⟩
  go_wp2_with fail
  refine (unhide HI w1 B1).mono ?_
  rintro e w2 ⟨y, cy, rfl, OG, hb2⟩
  have OW := OW.below hb2 (Nat.le_refl _)
  have B2 := B1.trans (hb2.mono B1.size)
  have z1 := B1.size
  have z2 := hb2.size
  clear hb2 B1
  go_wp2_with fail
  refine (eqOpS_same _ _ _ _ _ _ _ _ _ _ _ OG OW).mono ?_
  rintro e w3 ⟨rfl, hb3⟩
  have B3 := B2.trans (hb3.mono B2.size)
  have OW := OW.below hb3 (by have := OW.top; omega)
  have OG := OG.below hb3 (Nat.le_refl _)
  have z3 := hb3.size
  clear hb3 B2
  have bo : (o != o) = false := by simp
  go_wp2_with fail
  refine (markOpS_any _ _ _ _ _ _ 1 _ OG (by omega)).mono ?_
  rintro e w7 ⟨rfl, OM, T7⟩
  have B7 := below_touch B3 T7 (by omega) B3.size
  have OW := OW.touch T7 (by omega)
  have z67 := T7.size
  clear OG B3 T7
  go_wp2_with fail
  refine (heldOpS_any _ _ _ _ _ 1 _ OM (by omega)).mono ?_
  rintro e w8 ⟨rfl, hb8⟩
  have B8 := B7.trans (hb8.mono B7.size)
  have OW := OW.below hb8 (by have := OW.top; omega)
  have OM := OM.below hb8 (by have := OM.top; omega)
  have z78 := hb8.size
  have hq : ¬ (((1 + 5 * T.length : Nat) : Int) < 0) := by omega
  clear B7 hb8
  go_wp2_with fail
  refine (unhide HI w8 B8).mono ?_
  rintro e w9 ⟨y2, cy2, rfl, OH, hb9⟩
  have OW := OW.below hb9 (by have := OW.top; omega)
  have OM := OM.below hb9 (by have := OM.top; omega)
  have B9 := B8.trans (hb9.mono B8.size)
  have z89 := hb9.size
  clear hb9 B8
  go_wp2_with fail
  refine (eqOpS_same _ _ _ _ _ _ _ _ _ _ _ OH OW).mono ?_
  rintro e w11 ⟨rfl, hb11⟩
  have B11 := B9.trans (hb11.mono B9.size)
  have OM := OM.below hb11 (by have := OM.top; omega)
  have z1011 := hb11.size
  clear hb11 B9 OH OW
  go_wp2_with fail
  refine (heldOpS_any _ _ _ _ _ 1 _ OM (by omega)).mono ?_
  rintro e w13 ⟨rfl, hb13⟩
  have B13 := B11.trans (hb13.mono B11.size)
  clear B11 hb13 OM
  go_wp2_with fail
  go_ret
  exact ⟨rfl, B13⟩

end Go.Proofs.YthdoakeocaegkaaDoor

/-
  The program's look at the form of a typed policy. Own work.
-/
import Derived.Test.YtjapdeehnfoonaaGreatDoorMWM
import Derived.Test.YtjapdeehnfoonaaGreatDoorMWN
namespace Go.Proofs.YtjapdeehnfoonaaGreatDoor
open Go.RowKit
set_option linter.unusedVariables false

/-- what the program answers -/
def wellT (N : List Nd) (L : List St) : Bool := decide (N.length ≤ 4000) && (decide (1 ≤ L.length ∧ L.length ≤ 600) && stmtsI L) && N.all fieldsT && shapeI N L

set_option maxRecDepth 100000 in
set_option maxHeartbeats 3200000 in
theorem wellFormedT_any (a b : Option Addr) (n c m d : Nat) (N : List Nd) (L : List St) (w : World) (h1 : Nds w a n c N) (h2 : Sts w b m d L) (hT : TabOK w) :
    Calls Tryz.prog 30 #[.agg #[.slice a n c, .slice b m d], .func (.func 32) #[] #[]] w fun e w' => e = .returned (.bool (wellT N L)) ∧ Below w.heap.size w w' := by
  have s1 := h1.small
  have s2 := h2.small
  have HN := hide h1.len
  have HL := hide h2.len
  have HF := hide (show wellT N L = (decide (n ≤ 4000) && (decide (1 ≤ m ∧ m ≤ 600) && stmtsI L) && N.all fieldsT && shapeI N L) by rw [wellT, h1.len, h2.len])
  have R0 := Row.new w #[.slice a n c, .slice b m d] 75
  have B0 := (Below.refl w.heap.size w).alloc (Nat.le_refl _) (.cells #[.slice a n c, .slice b m d] 75)
  have N0 := h1.below B0 (Nat.le_refl _)
  have L0 := h2.below B0 (Nat.le_refl _)
  have T0 := hT.below B0 (Nat.le_refl _)
  go_enter Tryz.func30, Tryz.ntmps30
  by_cases hn : 4000 < n
  · have ih : (4000 : Int) < (n : Int) := by omega
    have HX := hide (show wellT N L = false by rw [unhide HF, decide_eq_false (by omega)]; rfl)
    clear hn
    go_wp2_with fail
    go_ret
    exact ⟨ret_bool (unhide HX).symm, B0⟩
  have ih : ¬ ((4000 : Int) < (n : Int)) := by omega
  have HG := hide (show wellT N L = ((decide (1 ≤ m ∧ m ≤ 600) && stmtsI L) && N.all fieldsT && shapeI N L) by rw [unhide HF, decide_eq_true (by omega)]; rfl)
  clear hn HF
  generalize hv1 : (decide (1 ≤ m ∧ m ≤ 600) && stmtsI L) = v1 at HG
  have Hv1 := hide hv1
  clear hv1
  cases v1
  · have HX := hide (show wellT N L = false by rw [unhide HG]; rfl)
    go_wp2_with (go_at_call 50; refine (validStmts_any _ _ _ _ _ L0).mono ?_; rintro e w2 ⟨rfl, hb2⟩; rw [unhide Hv1])
    go_ret
    exact ⟨ret_bool (unhide HX).symm, B0.trans (hb2.mono B0.size)⟩
  · have HG2 := hide (show wellT N L = (N.all fieldsT && shapeI N L) by rw [unhide HG, Bool.true_and])
    clear HG
    generalize hv2 : N.all fieldsT = v2 at HG2
    have Hv2 := hide hv2
    clear hv2
    cases v2
    · have HX := hide (show wellT N L = false by rw [unhide HG2]; rfl)
      go_wp2_with (first
        | (go_at_call 50; refine (validStmts_any _ _ _ _ _ L0).mono ?_; rintro e w2 ⟨rfl, hb2⟩; rw [unhide Hv1]; obtain ⟨q0, q1⟩ := row2 (R0.after hb2 (Nat.le_refl _)))
        | (go_at_call 51; refine (validNodesT_any _ _ _ _ _ (N0.below hb2 (Nat.le_refl _)) (T0.below hb2 (Nat.le_refl _))).mono ?_; rintro e w3 ⟨rfl, hb3⟩; rw [unhide Hv2]))
      go_ret
      exact ⟨ret_bool (unhide HX).symm, B0.trans ((hb2.trans (hb3.mono hb2.size)).mono B0.size)⟩
    · have HG3 := hide (show wellT N L = shapeI N L by rw [unhide HG2, Bool.true_and])
      clear HG2
      have HS := hide (show shapeI N L = match runT (N.map Nd.kids) n [] 0 with | none => false | some S => decide (topsI S = L.flatMap askedOf) by rw [shapeI, unhide HN]; rfl)
      have HT := hide (fun S => (runT_len (K := N.map Nd.kids) (k := n) (S := S)))
      generalize hrn : runT (N.map Nd.kids) n [] 0 = rn at HS HT
      have Hrn := hide hrn
      clear hrn
      cases rn with
      | none =>
        have HX := hide (show wellT N L = false by rw [unhide HG3, unhide HS])
        go_wp2_with (first
          | (go_at_call 50; refine (validStmts_any _ _ _ _ _ L0).mono ?_; rintro e w2 ⟨rfl, hb2⟩; rw [unhide Hv1]; obtain ⟨q0, q1⟩ := row2 (R0.after hb2 (Nat.le_refl _)))
          | (go_at_call 51; refine (validNodesT_any _ _ _ _ _ (N0.below hb2 (Nat.le_refl _)) (T0.below hb2 (Nat.le_refl _))).mono ?_; rintro e w3 ⟨rfl, hb3⟩; rw [unhide Hv2]; have hb3' := hb2.trans (hb3.mono hb2.size); obtain ⟨r0, r1⟩ := row2 (R0.after hb3' (Nat.le_refl _)))
          | (go_at_call 52; refine (topsOf_any _ _ _ _ _ (N0.below hb3' (Nat.le_refl _))).mono ?_; rw [unhide Hrn]; rintro e w4 ⟨he, hb4⟩; change e = _ at he; subst he))
        go_ret
        exact ⟨ret_bool (unhide HX).symm, B0.trans ((hb3'.trans (hb4.mono hb3'.size)).mono B0.size)⟩
      | some S =>
        obtain ⟨AL, HAL⟩ : ∃ AL, Hid (L.flatMap askedOf = AL) := ⟨_, hide rfl⟩
        obtain ⟨TL, HTL⟩ : ∃ TL, Hid (topsI S = TL) := ⟨_, hide rfl⟩
        have HX := hide (show wellT N L = decide (TL = AL) by rw [unhide HG3, unhide HS, unhide HAL]; show decide (topsI S = AL) = _; rw [unhide HTL])
        have hSl : S.length ≤ n := by
          rcases unhide HT S rfl with k | ⟨_, k⟩
          · exact k.1
          · subst k; simp
        have hm6 : m ≤ 600 := (of_decide_eq_true (Bool.and_eq_true _ _ ▸ unhide Hv1).1).2
        have hal : AL.length ≤ 2 * m := by have := asked_len L; rw [unhide HL, unhide HAL] at this; exact this
        go_wp2_with (first
          | (go_at_call 50; refine (validStmts_any _ _ _ _ _ L0).mono ?_; rintro e w2 ⟨rfl, hb2⟩; rw [unhide Hv1]; obtain ⟨q0, q1⟩ := row2 (R0.after hb2 (Nat.le_refl _)))
          | (go_at_call 51; refine (validNodesT_any _ _ _ _ _ (N0.below hb2 (Nat.le_refl _)) (T0.below hb2 (Nat.le_refl _))).mono ?_; rintro e w3 ⟨rfl, hb3⟩; rw [unhide Hv2]; have hb3' := hb2.trans (hb3.mono hb2.size); obtain ⟨r0, r1⟩ := row2 (R0.after hb3' (Nat.le_refl _)))
          | (go_at_call 52; refine (topsOf_any _ _ _ _ _ (N0.below hb3' (Nat.le_refl _))).mono ?_; rw [unhide Hrn]; rintro e w4 ⟨⟨v, he, O4⟩, hb4⟩; subst he; rw [unhide HTL] at O4; obtain ⟨xv, cv, rfl, _⟩ := owns_form2 O4; have hb4' := hb3'.trans (hb4.mono hb3'.size); obtain ⟨t0, t1⟩ := row2 (R0.after hb4' (Nat.le_refl _)); have I4 := ints_of_row O4 (by omega))
          | (go_at_call 53; refine (topsAsked_any _ _ _ _ _ (L0.below hb4' (Nat.le_refl _))).mono ?_; rintro e w5 ⟨v, rfl, O5, hb5⟩; rw [unhide HAL] at O5; obtain ⟨xu, cu, rfl, _⟩ := owns_form2 O5; have I5 := ints_of_row O5 (by omega); have I6 := I4.below hb5 (Nat.le_refl _); have hb5' := hb4'.trans (hb5.mono hb4'.size))
          | (go_at_call 36; refine (equalI_any _ _ _ _ _ _ _ _ _ I6 I5).mono ?_; rintro e w6 ⟨rfl, hb6⟩))
        go_ret
        exact ⟨ret_bool (unhide HX).symm, B0.trans ((hb5'.trans (hb6.mono hb5'.size)).mono B0.size)⟩

end Go.Proofs.YtjapdeehnfoonaaGreatDoor

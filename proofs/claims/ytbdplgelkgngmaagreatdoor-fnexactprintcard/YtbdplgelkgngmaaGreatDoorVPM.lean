/-
  The program's whole look at a policy. Own work.
-/
import Derived.Test.YtbdplgelkgngmaaGreatDoorVPL
namespace Go.Proofs.YtbdplgelkgngmaaGreatDoor
open Go.RowKit
set_option linter.unusedVariables false

def shapeI (N : List Nd) (L : List St) : Bool := match runT (N.map Nd.kids) N.length [] 0 with
  | none => false
  | some S => decide (topsI S = L.flatMap askedOf)

/-- what the program answers -/
def wellI (N : List Nd) (L : List St) : Bool := decide (N.length ≤ 4000) && (decide (1 ≤ L.length ∧ L.length ≤ 600) && stmtsI L) && N.all fieldsB && shapeI N L

theorem row2 {w : World} {b : Nat} {v0 v1 : Value} {t : TypeId} (R : Row w b #[v0, v1] t) : w.cell? ⟨b, 0, none⟩ = some v0 ∧ w.cell? ⟨b, 1, none⟩ = some v1 := ⟨R.cell 0, R.cell 1⟩

theorem runT_len {K : List (List Int)} : ∀ {k : Nat} {S : List (Nat × Nat)}, runT K k [] 0 = some S → S.length ≤ k ∧ k ≤ K.length ∨ k = 0 ∧ S = []
  | 0, S, h => by right; rw [runT] at h; cases h; exact ⟨rfl, rfl⟩
  | k + 1, S, h => by
    left
    rw [runT_add K k 1 [] 0] at h
    cases h1 : runT K k [] 0 with
    | none => rw [h1] at h; cases h
    | some S1 =>
      rw [h1] at h
      change runT K 1 S1 (0 + k) = some S at h
      rw [Nat.zero_add, runT] at h
      cases h2 : K[k]? with
      | none => rw [h2] at h; cases h
      | some ks =>
        rw [h2] at h
        dsimp only at h
        cases h3 : stepT S1 k ks with
        | none => rw [h3] at h; cases h
        | some S2 =>
          rw [h3] at h
          change some S2 = some S at h
          cases h
          have hl := (List.getElem?_eq_some_iff.1 h2).1
          obtain ⟨A, B, e1, _, _, e2⟩ := stepT_of h3
          have ih := runT_len h1
          rw [e2, List.length_append, List.length_singleton]
          rcases ih with ⟨i1, i2⟩ | ⟨i1, i2⟩
          · rw [e1, List.length_append] at i1; omega
          · rw [e1] at i2; have := List.append_eq_nil_iff.1 i2; rw [this.1]; simp; omega

set_option maxRecDepth 100000 in
set_option maxHeartbeats 3200000 in
theorem wellFormed_any (a b : Option Addr) (n c m d : Nat) (N : List Nd) (L : List St) (w : World) (h1 : Nds w a n c N) (h2 : Sts w b m d L) (hT : TabOK w) :
    Calls Tryz.prog 30 #[.agg #[.slice a n c, .slice b m d], .func (.func 31) #[] #[]] w fun e w' => e = .returned (.bool (wellI N L)) ∧ Below w.heap.size w w' := by
  have s1 := h1.small
  have s2 := h2.small
  have HN := hide h1.len
  have HL := hide h2.len
  have HF := hide (show wellI N L = (decide (n ≤ 4000) && (decide (1 ≤ m ∧ m ≤ 600) && stmtsI L) && N.all fieldsB && shapeI N L) by rw [wellI, h1.len, h2.len])
  have R0 := Row.new w #[.slice a n c, .slice b m d] 31
  have B0 := (Below.refl w.heap.size w).alloc (Nat.le_refl _) (.cells #[.slice a n c, .slice b m d] 31)
  have N0 := h1.below B0 (Nat.le_refl _)
  have L0 := h2.below B0 (Nat.le_refl _)
  have T0 := hT.below B0 (Nat.le_refl _)
  go_enter Tryz.func30, Tryz.ntmps30
  by_cases hn : 4000 < n
  · have ih : (4000 : Int) < (n : Int) := by omega
    have HX := hide (show wellI N L = false by rw [unhide HF, decide_eq_false (by omega)]; rfl)
    clear hn
    go_wp2_with fail
    go_ret
    exact ⟨ret_bool (unhide HX).symm, B0⟩
  have ih : ¬ ((4000 : Int) < (n : Int)) := by omega
  have HG := hide (show wellI N L = ((decide (1 ≤ m ∧ m ≤ 600) && stmtsI L) && N.all fieldsB && shapeI N L) by rw [unhide HF, decide_eq_true (by omega)]; rfl)
  clear hn HF
  generalize hv1 : (decide (1 ≤ m ∧ m ≤ 600) && stmtsI L) = v1 at HG
  have Hv1 := hide hv1
  clear hv1
  cases v1
  · have HX := hide (show wellI N L = false by rw [unhide HG]; rfl)
    go_wp2_with (go_at_call 47; refine (validStmts_any _ _ _ _ _ L0).mono ?_; rintro e w2 ⟨rfl, hb2⟩; rw [unhide Hv1])
    go_ret
    exact ⟨ret_bool (unhide HX).symm, B0.trans (hb2.mono B0.size)⟩
  · have HG2 := hide (show wellI N L = (N.all fieldsB && shapeI N L) by rw [unhide HG, Bool.true_and])
    clear HG
    generalize hv2 : N.all fieldsB = v2 at HG2
    have Hv2 := hide hv2
    clear hv2
    cases v2
    · have HX := hide (show wellI N L = false by rw [unhide HG2]; rfl)
      go_wp2_with (first
        | (go_at_call 47; refine (validStmts_any _ _ _ _ _ L0).mono ?_; rintro e w2 ⟨rfl, hb2⟩; rw [unhide Hv1]; obtain ⟨q0, q1⟩ := row2 (R0.after hb2 (Nat.le_refl _)))
        | (go_at_call 48; refine (validNodes_any _ _ _ _ _ (N0.below hb2 (Nat.le_refl _)) (T0.below hb2 (Nat.le_refl _))).mono ?_; rintro e w3 ⟨rfl, hb3⟩; rw [unhide Hv2]))
      go_ret
      exact ⟨ret_bool (unhide HX).symm, B0.trans ((hb2.trans (hb3.mono hb2.size)).mono B0.size)⟩
    · have HG3 := hide (show wellI N L = shapeI N L by rw [unhide HG2, Bool.true_and])
      clear HG2
      have HS := hide (show shapeI N L = match runT (N.map Nd.kids) n [] 0 with | none => false | some S => decide (topsI S = L.flatMap askedOf) by rw [shapeI, unhide HN])
      have HT := hide (fun S => (runT_len (K := N.map Nd.kids) (k := n) (S := S)))
      generalize hrn : runT (N.map Nd.kids) n [] 0 = rn at HS HT
      have Hrn := hide hrn
      clear hrn
      cases rn with
      | none =>
        have HX := hide (show wellI N L = false by rw [unhide HG3, unhide HS])
        go_wp2_with (first
          | (go_at_call 47; refine (validStmts_any _ _ _ _ _ L0).mono ?_; rintro e w2 ⟨rfl, hb2⟩; rw [unhide Hv1]; obtain ⟨q0, q1⟩ := row2 (R0.after hb2 (Nat.le_refl _)))
          | (go_at_call 48; refine (validNodes_any _ _ _ _ _ (N0.below hb2 (Nat.le_refl _)) (T0.below hb2 (Nat.le_refl _))).mono ?_; rintro e w3 ⟨rfl, hb3⟩; rw [unhide Hv2]; have hb3' := hb2.trans (hb3.mono hb2.size); obtain ⟨r0, r1⟩ := row2 (R0.after hb3' (Nat.le_refl _)))
          | (go_at_call 49; refine (topsOf_any _ _ _ _ _ (N0.below hb3' (Nat.le_refl _))).mono ?_; rw [unhide Hrn]; rintro e w4 ⟨he, hb4⟩; change e = _ at he; subst he))
        go_ret
        exact ⟨ret_bool (unhide HX).symm, B0.trans ((hb3'.trans (hb4.mono hb3'.size)).mono B0.size)⟩
      | some S =>
        obtain ⟨AL, HAL⟩ : ∃ AL, Hid (L.flatMap askedOf = AL) := ⟨_, hide rfl⟩
        obtain ⟨TL, HTL⟩ : ∃ TL, Hid (topsI S = TL) := ⟨_, hide rfl⟩
        have HX := hide (show wellI N L = decide (TL = AL) by rw [unhide HG3, unhide HS, unhide HAL]; show decide (topsI S = AL) = _; rw [unhide HTL])
        have hSl : S.length ≤ n := by
          rcases unhide HT S rfl with k | ⟨_, k⟩
          · exact k.1
          · subst k; simp
        have hm6 : m ≤ 600 := (of_decide_eq_true (Bool.and_eq_true _ _ ▸ unhide Hv1).1).2
        have hal : AL.length ≤ 2 * m := by have := asked_len L; rw [unhide HL, unhide HAL] at this; exact this
        go_wp2_with (first
          | (go_at_call 47; refine (validStmts_any _ _ _ _ _ L0).mono ?_; rintro e w2 ⟨rfl, hb2⟩; rw [unhide Hv1]; obtain ⟨q0, q1⟩ := row2 (R0.after hb2 (Nat.le_refl _)))
          | (go_at_call 48; refine (validNodes_any _ _ _ _ _ (N0.below hb2 (Nat.le_refl _)) (T0.below hb2 (Nat.le_refl _))).mono ?_; rintro e w3 ⟨rfl, hb3⟩; rw [unhide Hv2]; have hb3' := hb2.trans (hb3.mono hb2.size); obtain ⟨r0, r1⟩ := row2 (R0.after hb3' (Nat.le_refl _)))
          | (go_at_call 49; refine (topsOf_any _ _ _ _ _ (N0.below hb3' (Nat.le_refl _))).mono ?_; rw [unhide Hrn]; rintro e w4 ⟨⟨v, he, O4⟩, hb4⟩; subst he; rw [unhide HTL] at O4; obtain ⟨xv, cv, rfl, _⟩ := owns_form2 O4; have hb4' := hb3'.trans (hb4.mono hb3'.size); obtain ⟨t0, t1⟩ := row2 (R0.after hb4' (Nat.le_refl _)); have I4 := ints_of_row O4 (by omega))
          | (go_at_call 51; refine (topsAsked_any _ _ _ _ _ (L0.below hb4' (Nat.le_refl _))).mono ?_; rintro e w5 ⟨v, rfl, O5, hb5⟩; rw [unhide HAL] at O5; obtain ⟨xu, cu, rfl, _⟩ := owns_form2 O5; have I5 := ints_of_row O5 (by omega); have I6 := I4.below hb5 (Nat.le_refl _); have hb5' := hb4'.trans (hb5.mono hb4'.size))
          | (go_at_call 50; refine (equalI_any _ _ _ _ _ _ _ _ _ I6 I5).mono ?_; rintro e w6 ⟨rfl, hb6⟩))
        go_ret
        exact ⟨ret_bool (unhide HX).symm, B0.trans ((hb5'.trans (hb6.mono hb5'.size)).mono B0.size)⟩

set_option maxHeartbeats 800000 in
theorem iValidPolicy_any (a b : Option Addr) (n c m d : Nat) (N : List Nd) (L : List St) (w : World) (h1 : Nds w a n c N) (h2 : Sts w b m d L) (hT : TabOK w) :
    Calls Tryz.prog 15 #[.agg #[.slice a n c, .slice b m d]] w fun e w' => e = .returned (.bool (wellI N L)) ∧ Below w.heap.size w w' := by
  have B0 := (Below.refl w.heap.size w).alloc (Nat.le_refl _) (.cells #[.slice a n c, .slice b m d] 31)
  go_enter Tryz.func15, Tryz.ntmps15
  go_wp2_with (go_at_call 30; refine (wellFormed_any _ _ _ _ _ _ _ _ _ (h1.below B0 (Nat.le_refl _)) (h2.below B0 (Nat.le_refl _)) (hT.below B0 (Nat.le_refl _))).mono ?_; rintro e w2 ⟨rfl, hb2⟩)
  go_ret
  exact ⟨rfl, B0.trans (hb2.mono B0.size)⟩

end Go.Proofs.YtbdplgelkgngmaaGreatDoor

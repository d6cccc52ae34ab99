/-
  The program's WellTyped. Own work.
-/
import Derived.Test.YtjapdeehnfoonaaGreatDoorMWO
import Derived.Test.YtjapdeehnfoonaaGreatDoorMWK
import Derived.Test.YtjapdeehnfoonaaGreatDoorVPW
namespace Go.Proofs.YtjapdeehnfoonaaGreatDoor
open Go.RowKit
set_option linter.unusedVariables false

/-- what the program says of a typed policy -/
def IsWT (N : List Nd) (L : List St) (T : List Int) (b : Bool) : Prop :=
  (wellT N L = false ∧ b = false) ∨ (wellT N L = true ∧ ∃ Es : List Ex, Es.length = N.length ∧ (∀ j, (h : j < Es.length) → IsT N j Es[j]) ∧ b = (match ckAll Es (attN, [], []) L with
    | none => false
    | some st => decide (st.2.2 = T)))

set_option maxHeartbeats 400000 in
set_option maxRecDepth 100000 in
theorem untyped_any (a b e : Option Addr) (n c m d k f : Nat) (w : World) :
    Calls Tryz.prog 31 #[.agg #[.slice a n c, .slice b m d, .slice e k f]] w fun r w' => r = .returned (.agg #[.slice a n c, .slice b m d]) ∧ Below w.heap.size w w' := by
  have B0 := (Below.refl w.heap.size w).alloc (Nat.le_refl _) (.cells #[.slice a n c, .slice b m d, .slice e k f] 32)
  have B1 := B0.alloc B0.size (.cells #[.slice a n c, .slice b m d] 75)
  have R1 := Row.new (w.alloc (.cells #[.slice a n c, .slice b m d, .slice e k f] 32)) #[.slice a n c, .slice b m d] 75
  simp only [World.size_alloc] at R1
  obtain ⟨p0, p1⟩ := row2 R1
  go_enter Tryz.func31, Tryz.ntmps31
  go_wp2_with fail
  refine bodyPost_ret (v := .agg #[.slice a n c, .slice b m d]) (by simp [results, Tryz.results31, go_sem, p0, p1]) rfl ?_
  exact ⟨rfl, B1⟩

theorem ckAll_types {Es : List Ex} {L : List St} {st : CkS} (h : ckAll Es (attN, [], []) L = some st) (hc : cntL Es L ≤ 4000) : st.2.2.length ≤ 4000 := by
  have := (ckAll_len h).1
  simp at this
  omega

set_option maxHeartbeats 1600000 in
set_option maxRecDepth 100000 in
theorem iWellTyped_any (a b e : Option Addr) (n c m d k f : Nat) (N : List Nd) (L : List St) (T : List Int) (aT aN aA : Addr) (w : World) (h1 : Nds w a n c N) (h2 : Sts w b m d L) (h3 : Ints w e k f T) (hT : TabOK w) (hV : Vok w aT) (hE : Eok w aN aA) :
    Calls Tryz.prog 18 #[.agg #[.slice a n c, .slice b m d, .slice e k f]] w fun r w' => (∃ v, r = .returned (.bool v) ∧ IsWT N L T v) ∧ Below w.heap.size w w' := by
  have HN := hide h1.len
  have HL := hide h2.len
  have R0 := Row.new w #[.slice a n c, .slice b m d, .slice e k f] 32
  have B0 := (Below.refl w.heap.size w).alloc (Nat.le_refl _) (.cells #[.slice a n c, .slice b m d, .slice e k f] 32)
  have N0 := h1.below B0 (Nat.le_refl _)
  have L0 := h2.below B0 (Nat.le_refl _)
  have I0 := h3.below B0 (Nat.le_refl _)
  have T0 := hT.below B0 (Nat.le_refl _)
  have V0 := hV.below B0 (Nat.le_refl _)
  have E0 := hE.below B0 (Nat.le_refl _)
  clear h1 h2 h3 hT hV hE
  go_enter Tryz.func18, Tryz.ntmps18
  go_wp2_with fail
  refine (untyped_any _ _ _ _ _ _ _ _ _ _).mono ?_
  rintro r w1 ⟨rfl, hb1⟩
  dsimp only
  have N1 := N0.below hb1 (Nat.le_refl _)
  have L1 := L0.below hb1 (Nat.le_refl _)
  have I1 := I0.below hb1 (Nat.le_refl _)
  have T1 := T0.below hb1 (Nat.le_refl _)
  have V1 := V0.below hb1 (Nat.le_refl _)
  have E1 := E0.below hb1 (Nat.le_refl _)
  have R1 := R0.after hb1 (Nat.le_refl _)
  have B1 := B0.trans (hb1.mono B0.size)
  clear N0 L0 I0 T0 V0 E0 R0 B0 hb1
  go_wp2_with fail
  refine (wellFormedT_any _ _ _ _ _ _ N L _ N1 L1 T1).mono ?_
  rintro r w2 ⟨rfl, hb2⟩
  dsimp only
  have N2 := N1.below hb2 (Nat.le_refl _)
  have L2 := L1.below hb2 (Nat.le_refl _)
  have I2 := I1.below hb2 (Nat.le_refl _)
  have V2 := V1.below hb2 (Nat.le_refl _)
  have E2 := E1.below hb2 (Nat.le_refl _)
  have R2 := R1.after hb2 (Nat.le_refl _)
  have B2 := B1.trans (hb2.mono B1.size)
  clear N1 L1 I1 T1 V1 E1 R1 B1 hb2
  cases hw : wellT N L with
  | false =>
    have HW := hide hw
    clear hw
    go_wp2_with fail
    go_ret
    exact ⟨⟨_, rfl, .inl ⟨unhide HW, rfl⟩⟩, B2⟩
  | true =>
    have HW := hide hw
    have HP := hide (wellPT_of hw)
    clear hw
    go_wp2_with fail
    refine (newChecker_any aT _ V2).mono ?_
    rintro r w3 ⟨cb, mb, rfl, hmb, C3, M3, hb3⟩
    dsimp only
    have L3 := L2.below hb3 (Nat.le_refl _)
    have I3 := I2.below hb3 (Nat.le_refl _)
    have R3 := R2.after hb3 (Nat.le_refl _)
    have Q3 : Cm w2.heap.size cb mb attN [] [] (.slice none 0 0) (.slice none 0 0) w3 := ⟨C3, M3, hmb⟩
    obtain ⟨p0, p1, p2, _⟩ := row3 R3
    have z2 := R2.lt
    clear R2
    go_wp2_with fail
    refine (untyped_any _ _ _ _ _ _ _ _ _ _).mono ?_
    rintro r w4 ⟨rfl, hb4⟩
    dsimp only
    have L4 := L3.below hb4 (Nat.le_refl _)
    have D4 := hb3.trans (hb4.mono hb3.size)
    have Q4 := Q3.below hb4
    have R4 := R3.after hb4 (Nat.le_refl _)
    have HC := hide (statementsOf_any a b n c m d N L w2 w4 N2 D4 L4 Ex.typed (makes_typed (unhide HP)) (by rw [← unhide HN]; exact (unhide HP).roots))
    clear p0 p1 p2 R3 L3 C3 M3
    go_wp2_with fail
    refine (unhide HC).mono ?_
    rintro r w5 ⟨⟨v, Es, rfl, hEl, hE, hf, O5⟩, hb5⟩
    dsimp only
    have HEl := hide (show Es.length = N.length by rw [hEl, unhide HN])
    have HE := hide hE
    have HOK := hide (okP_of (unhide HP) (unhide HEl) hE hf)
    have HCN := hide (cntL_le (unhide HW) (unhide HEl) hE)
    have Hm := hide (show 1 ≤ m ∧ m ≤ 600 by rw [← unhide HL]; exact ⟨(unhide HP).m0, (unhide HP).m⟩)
    obtain ⟨xv, kv, rfl, hx⟩ := owns_form2 O5
    obtain ⟨g, rfl, hg, hgc⟩ := hx (by have := unhide Hm; omega)
    obtain ⟨cur, R5, hcur⟩ := row_of_owns O5
    have g1 : g ≠ cb := by have := Q4.C.row.lt; omega
    have g2 : g ≠ mb := by have := Q4.M.lt; omega
    have Q5 := Q4.below hb5
    have D5 := D4.trans (hb5.mono D4.size)
    have R6 := R4.after hb5 (Nat.le_refl _)
    have HS := hide (statements_any w2.heap.size cb mb (attN, [], []) (.slice none 0 0) (.slice none 0 0) w2 aT aN aA V2 E2 (Nat.le_refl _) Es L m g kv cur w5 (unhide HL) (fun t ht => by cases ht) (by have := unhide Hm; simp; omega) (unhide HOK) (by have := unhide HCN; simp; omega) D5 Q5 R5 (fun r u hu => by rw [← R5.cell]; exact hgc r u hu) g1 g2 (by simp [Value.ownBlock]) (by simp [Value.ownBlock]))
    clear hEl hE hf hx hgc HC O5 hb5 Q3 Q4 L4 R4
    go_wp2_with fail
    refine (unhide HS).mono ?_
    rintro r w6 (⟨ns, ts, tt, lv, tv, ho, rfl, H6, K6⟩ | ⟨ho, ⟨te, ue, rfl⟩, hb6⟩)
    · have HO := hide ho
      have ht := ckAll_types ho (unhide HCN)
      clear ho
      dsimp only
      have I6 := I2.below (D5.trans K6.low) (Nat.le_refl _)
      have R7 := R6.below K6.low z2
      obtain ⟨xt, ct, rfl, _⟩ := owns_form2 H6.C.types
      have J6 := ints_of_row H6.C.types (by have : tt.length ≤ 4000 := ht; omega)
      have RC := H6.C.row
      have D1 : Below w6.heap.size w6 w6.drew := (Below.refl _ _).drew
      have keep : ∀ w', Below w6.heap.size w6 w' → w'.cell? ⟨cb, 2, none⟩ = some (.slice xt tt.length ct) ∧ w'.cell? ⟨w.heap.size, 2, none⟩ = some (.slice e k f) := fun w' hb => ⟨(RC.after hb (Nat.le_refl _)).cell 2, (R7.after hb (Nat.le_refl _)).cell 2⟩
      have KP := hide keep
      have q1 := keep _ D1
      have J7 := J6.below D1 (Nat.le_refl _)
      have I7 := I6.below D1 (Nat.le_refl _)
      clear keep ht
      go_wp2_with fail
      go_region_held3 (fun w' => w'.cell? ⟨cb, 2, none⟩ = some (.slice xt tt.length ct) ∧ w'.cell? ⟨w.heap.size, 2, none⟩ = some (.slice e k f)) (first | assumption | go_keep)
        ((go_at_call 36; refine (equalI_any _ _ _ _ _ _ _ _ _ J7 I7).mono ?_; rintro r w7 ⟨rfl, hb7⟩; have G2 := D1.trans (hb7.mono D1.size); have q2 := unhide KP _ G2))
      go_wp2_with fail
      go_ret
      exact ⟨⟨_, rfl, .inr ⟨unhide HW, Es, unhide HEl, unhide HE, by rw [unhide HO]⟩⟩, B2.trans ((D5.trans (K6.low.trans (G2.mono (D5.trans K6.low).size))).mono B2.size)⟩
    · have HO := hide ho
      clear ho
      dsimp only
      go_wp2_with fail
      go_region
      all_goals
        go_wp2_with fail
        go_ret
        exact ⟨⟨_, rfl, .inr ⟨unhide HW, Es, unhide HEl, unhide HE, by rw [unhide HO]⟩⟩, B2.trans ((D5.trans hb6.drew).mono B2.size)⟩

end Go.Proofs.YtjapdeehnfoonaaGreatDoor

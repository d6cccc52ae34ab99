/-
  The draws of asks, exactly. Own work.
-/
import Derived.Test.YtnahfogbemfngaaGreatDoorEY
import Derived.Test.YtnahfogbemfngaaGreatDoorPG
namespace Go.Proofs.YtnahfogbemfngaaGreatDoor
open Go.RowKit
set_option linter.unusedVariables false

/-- what l1spoil is -/
def spoilF (zs : List Int) (p : Nat) (K : List ByteArray) : List ByteArray × Nat :=
  (if (nx zs p).1 % 5 = 0 then K ++ [⟨#[]⟩] else if (nx zs p).1 % 5 = 1 then K ++ [⟨#[97]⟩] else if (nx zs p).1 % 5 = 2 then K ++ [⟨#[122, 122, 32, 116, 111, 112]⟩] else if (nx zs p).1 % 5 = 3 then K ++ wideF 64 100 else if 0 < K.length then K ++ [nth K (K.length - 1)] else K, (nx zs p).2)

def SpoilX (zs : List Int) (p : Nat) (K : List ByteArray) (K' : List ByteArray) (q : Nat) : Prop := spoilF zs p K = (K', q)

set_option maxRecDepth 100000 in
set_option maxHeartbeats 6400000 in
theorem l1spoil_x (R : Nat) (a : Option Addr) (n c : Nat) (zs : List Int) (p : Nat) (base : Nat) (x : Option Addr) (K : List ByteArray) (cx : Nat) (w : World) (h : RdX w R a n c zs p) (hN : Names w base x K cx) (hK : K.length ≤ 64) :
    Calls Tryz.prog 13 #[.pointer (some ⟨R, 0, none⟩), .slice x K.length cx] w fun e w' => LisX R a n c zs (SpoilX zs p K) w 128 e w' := by
  obtain ⟨i, hi, hz0, hz1, hz2⟩ := info_parts infoS
  have hR := h.lt
  have hsm := hN.small
  have Hsm := hide hsm
  clear hsm
  go_enter Tryz.func13, Tryz.ntmps13
  go_wp2_with (at_builtin; refine append_strs rfl _ _ rfl w.heap.size _ _ _ rfl (World.ownsRow_nil _ _ _ _) x K.length cx K rfl hN.strs (owns_nil hN.own) ?c1 (Nat.le_refl _) ?_)
  case c1 => omega
  intro v1 w1 hown1 hgrow1
  have B1 : Below w.heap.size w w1 := (Below.refl _ _).grown hgrow1 (Nat.le_refl _) (fun k hk => by cases hk)
  obtain ⟨x1, cx1, hf1⟩ := owns_form hown1
  rw [hf1] at hown1 ⊢
  clear hf1 hgrow1 hN
  have N1 : Names w1 w.heap.size x1 K cx1 := ⟨hown1, unhide Hsm⟩
  clear hown1
  have h1 := h.after B1 hR
  go_wp2_with fail
  refine (next_x R a n c zs p w1 h1).mono ?_
  rintro e w2 ⟨y, p2, rfl, X2, y0, y1, h2, t2⟩
  have T2 : Touch R (R + 1) w w2 := (Touch.of_below B1 (Nat.le_refl _)).trans t2
  have N2 := N1.touch t2 (by omega)
  have hbs := T2.size
  clear h h1 N1 B1 t2
  have O2 := N2.own
  by_cases e3 : y % 5 = 3
  · have q0 : (y % 5 == 0) = false := beq_eq_false_iff_ne.2 (by omega)
    have q1 : (y % 5 == 1) = false := beq_eq_false_iff_ne.2 (by omega)
    have q2 : (y % 5 == 2) = false := beq_eq_false_iff_ne.2 (by omega)
    have q3 : (y % 5 == 3) = true := beq_iff_eq.2 e3
    have E3 := hide e3
    clear e3
    go_wp2_with fail
    refine (l1wide_xi _ _ _ (by omega) (by omega) (by omega) (by omega)).mono ?_
    rintro e w3 ⟨x3, c3, K3, rfl, HK3, l3, N3, b3⟩
    have l3' : K3.length ≤ 64 := by omega
    clear l3
    have T3 := T2.then_below b3 T2.size
    have h3 := h2.after b3 h2.lt
    have O3 := (N2.below b3 (Nat.le_refl _)).own
    have S3 := N3.strs
    have n3 := owns_nil N3.own
    have Hs3 := hide N3.small
    have hbs3 := T3.size
    clear N3 N2 O2 T2 h2 b3
    go_wp2_with (at_builtin; refine append_strs rfl _ _ rfl w.heap.size _ _ _ rfl O3 x3 K3.length c3 K3 rfl S3 n3 ?d1 hbs3 ?_)
    case d1 => omega
    intro v4 w4 hown4 hgrow4
    have B4 : Below w.heap.size w3 w4 := (Below.refl w.heap.size w3).grown hgrow4 hbs3 (fun k hk => (O3.lt k hk).1)
    obtain ⟨x4, cx4, hf4⟩ := owns_form hown4
    rw [hf4] at hown4 ⊢
    clear hf4 hgrow4
    go_wp2_with fail
    go_ret
    exact ⟨x4, cx4, K ++ K3, p2, by rw [List.length_append]; rfl, hide (by have e3 := unhide E3; rw [SpoilX, spoilF, unhide X2, unhide HK3]; simp only [e3]; rfl), by rw [List.length_append]; omega, Names.app hown4 (unhide Hsm) (unhide Hs3), h3.after B4 hR, T3.then_below B4 (Nat.le_refl _)⟩
  have q3 : (y % 5 == 3) = false := beq_eq_false_iff_ne.2 e3
  by_cases e4 : y % 5 = 4
  · have q0 : (y % 5 == 0) = false := beq_eq_false_iff_ne.2 (by omega)
    have q1 : (y % 5 == 1) = false := beq_eq_false_iff_ne.2 (by omega)
    have q2 : (y % 5 == 2) = false := beq_eq_false_iff_ne.2 (by omega)
    have E4 := hide e4
    clear e3 e4
    by_cases hz : 0 < K.length
    · have iz : (0 : Int) < (K.length : Int) := by omega
      obtain ⟨b, off, ha, hbl, hc⟩ := N2.strs.at hz
      have hcl := hc (K.length - 1) (by omega)
      clear hc
      subst ha
      have t1 : ((K.length : Int) - 1).toNat = K.length - 1 := by omega
      have j1 : (0 : Int) ≤ (K.length : Int) - 1 := by omega
      have j2 : (K.length : Int) - 1 < (K.length : Int) := by omega
      have Hl := hide (show (nth K (K.length - 1)).size ≤ 1000 by rw [nth_eq K _ (by omega)]; exact unhide Hsm _ (List.getElem_mem _))
      go_wp2_with (at_builtin; refine wpList_append_own _ rfl _ _ 23 rfl w.heap.size 9 i (.string ByteArray.empty) 1 16 Tryz.underlying23 hi hz0 hz1 hz2 rfl (by decide) _ _ _ rfl (O2.alloc _) ⟨w2.heap.size, 0, none⟩ 1 1 [.string (nth K (K.length - 1))] rfl rfl ?c1 ?c2 ?c3 ?c4 ?c5 ?_)
      case c1 => exact cell_one_new _ _ _
      case c2 => intro u hu; simp at hu; subst hu; rfl
      case c3 => unfold maxLen; omega
      case c4 => omega
      case c5 => simp; omega
      intro v' w3 hown' hgrow _
      have B3 : Below w.heap.size w2 w3 := ((Below.refl w.heap.size w2).alloc hbs _).grown hgrow (by simp; omega) (fun k hk => (O2.lt k hk).1)
      obtain ⟨x', cx', hf⟩ := owns_form hown'
      rw [hf] at hown' ⊢
      clear hgrow hf
      go_wp2_with fail
      go_ret
      exact ⟨x', cx', K ++ [nth K (K.length - 1)], p2, by rw [List.length_append]; rfl, hide (by have e4 := unhide E4; rw [SpoilX, spoilF, unhide X2]; simp only [e4]; rw [if_pos hz]; rfl), by rw [List.length_append]; simp; omega, Names.snoc hown' (unhide Hsm) (unhide Hl), h2.after B3 hR, T2.then_below B3 (Nat.le_refl _)⟩
    · have iz : ¬ ((0 : Int) < (K.length : Int)) := by omega
      go_wp2_with fail
      go_ret
      exact ⟨x1, cx1, K, p2, rfl, hide (by have e4 := unhide E4; rw [SpoilX, spoilF, unhide X2]; simp only [e4]; rw [if_neg hz]; rfl), by omega, N2, h2, T2⟩
  · have hq : y % 5 = 0 ∨ y % 5 = 1 ∨ y % 5 = 2 := by omega
    clear e3 e4
    rcases hq with hq | hq | hq
    · have q0 : (y % 5 == 0) = true := beq_iff_eq.2 hq
      have HQ := hide hq
      clear hq
      go_wp2_with (at_builtin; refine wpList_append_own _ rfl _ _ 23 rfl w.heap.size 9 i (.string ByteArray.empty) 1 16 Tryz.underlying23 hi hz0 hz1 hz2 rfl (by decide) _ _ _ rfl (O2.alloc _) ⟨w2.heap.size, 0, none⟩ 1 1 [.string (⟨#[]⟩ : ByteArray)] rfl rfl ?c1 ?c2 ?c3 ?c4 ?c5 ?_)
      case c1 => exact cell_one_new _ _ _
      case c2 => intro u hu; simp at hu; subst hu; rfl
      case c3 => unfold maxLen; omega
      case c4 => omega
      case c5 => simp; omega
      intro v' w3 hown' hgrow _
      have B3 : Below w.heap.size w2 w3 := ((Below.refl w.heap.size w2).alloc hbs _).grown hgrow (by simp; omega) (fun k hk => (O2.lt k hk).1)
      obtain ⟨x', cx', hf⟩ := owns_form hown'
      rw [hf] at hown' ⊢
      clear hgrow hf
      go_wp2_with fail
      go_ret
      exact ⟨x', cx', K ++ [(⟨#[]⟩ : ByteArray)], p2, by rw [List.length_append]; rfl, hide (by have e := unhide HQ; rw [SpoilX, spoilF, unhide X2]; simp only [e]; rfl), by rw [List.length_append]; simp; omega, Names.snoc hown' (unhide Hsm) (by decide), h2.after B3 hR, T2.then_below B3 (Nat.le_refl _)⟩
    · have q0 : (y % 5 == 0) = false := beq_eq_false_iff_ne.2 (by omega)
      have q1 : (y % 5 == 1) = true := beq_iff_eq.2 hq
      have HQ := hide hq
      clear hq
      go_wp2_with (at_builtin; refine wpList_append_own _ rfl _ _ 23 rfl w.heap.size 9 i (.string ByteArray.empty) 1 16 Tryz.underlying23 hi hz0 hz1 hz2 rfl (by decide) _ _ _ rfl (O2.alloc _) ⟨w2.heap.size, 0, none⟩ 1 1 [.string (⟨#[97]⟩ : ByteArray)] rfl rfl ?c1 ?c2 ?c3 ?c4 ?c5 ?_)
      case c1 => exact cell_one_new _ _ _
      case c2 => intro u hu; simp at hu; subst hu; rfl
      case c3 => unfold maxLen; omega
      case c4 => omega
      case c5 => simp; omega
      intro v' w3 hown' hgrow _
      have B3 : Below w.heap.size w2 w3 := ((Below.refl w.heap.size w2).alloc hbs _).grown hgrow (by simp; omega) (fun k hk => (O2.lt k hk).1)
      obtain ⟨x', cx', hf⟩ := owns_form hown'
      rw [hf] at hown' ⊢
      clear hgrow hf
      go_wp2_with fail
      go_ret
      exact ⟨x', cx', K ++ [(⟨#[97]⟩ : ByteArray)], p2, by rw [List.length_append]; rfl, hide (by have e := unhide HQ; rw [SpoilX, spoilF, unhide X2]; simp only [e]; rfl), by rw [List.length_append]; simp; omega, Names.snoc hown' (unhide Hsm) (by decide), h2.after B3 hR, T2.then_below B3 (Nat.le_refl _)⟩
    · have q0 : (y % 5 == 0) = false := beq_eq_false_iff_ne.2 (by omega)
      have q1 : (y % 5 == 1) = false := beq_eq_false_iff_ne.2 (by omega)
      have q2 : (y % 5 == 2) = true := beq_iff_eq.2 hq
      have HQ := hide hq
      clear hq
      go_wp2_with (at_builtin; refine wpList_append_own _ rfl _ _ 23 rfl w.heap.size 9 i (.string ByteArray.empty) 1 16 Tryz.underlying23 hi hz0 hz1 hz2 rfl (by decide) _ _ _ rfl (O2.alloc _) ⟨w2.heap.size, 0, none⟩ 1 1 [.string (⟨#[122, 122, 32, 116, 111, 112]⟩ : ByteArray)] rfl rfl ?c1 ?c2 ?c3 ?c4 ?c5 ?_)
      case c1 => exact cell_one_new _ _ _
      case c2 => intro u hu; simp at hu; subst hu; rfl
      case c3 => unfold maxLen; omega
      case c4 => omega
      case c5 => simp; omega
      intro v' w3 hown' hgrow _
      have B3 : Below w.heap.size w2 w3 := ((Below.refl w.heap.size w2).alloc hbs _).grown hgrow (by simp; omega) (fun k hk => (O2.lt k hk).1)
      obtain ⟨x', cx', hf⟩ := owns_form hown'
      rw [hf] at hown' ⊢
      clear hgrow hf
      go_wp2_with fail
      go_ret
      exact ⟨x', cx', K ++ [(⟨#[122, 122, 32, 116, 111, 112]⟩ : ByteArray)], p2, by rw [List.length_append]; rfl, hide (by have e := unhide HQ; rw [SpoilX, spoilF, unhide X2]; simp only [e]; rfl), by rw [List.length_append]; simp; omega, Names.snoc hown' (unhide Hsm) (by decide), h2.after B3 hR, T2.then_below B3 (Nat.le_refl _)⟩


/-- what l1ask is -/
def AskX (zs : List Int) (p : Nat) (cl us : ByteArray) (lv : Int) (K : List ByteArray) (q : Nat) : Prop :=
  cl = (wordF zs p).1 ∧ us = (wordF zs (wordF zs p).2).1 ∧ ∃ p3, SetX zs (wordF zs (wordF zs p).2).2 K p3 ∧ q = (nx zs p3).2 ∧ lv = (if 240 < (nx zs p3).1 then 9999999 else (nx zs p3).1 % 12)

theorem AskX.unique {zs : List Int} {p q q' : Nat} {cl us cl' us' : ByteArray} {lv lv' : Int} {K K' : List ByteArray} (h : AskX zs p cl us lv K q) (h' : AskX zs p cl' us' lv' K' q') : cl = cl' ∧ us = us' ∧ lv = lv' ∧ K = K' ∧ q = q' := by
  obtain ⟨rfl, rfl, p3, s, rfl, rfl⟩ := h
  obtain ⟨rfl, rfl, p3', s', rfl, rfl⟩ := h'
  obtain ⟨rfl, rfl⟩ := s.unique s'
  exact ⟨rfl, rfl, rfl, rfl, rfl⟩

theorem Names.far {w w' : World} {base cx : Nat} {x : Option Addr} {K : List ByteArray} (h : Names w base x K cx) (hb : ∀ k, base ≤ k → k < w.heap.size → w'.heap[k]? = w.heap[k]?) : Names w' base x K cx :=
  ⟨owns_of_block h.own (fun y hy => by subst hy; have := h.own.lt _ rfl; exact hb _ this.1 this.2), h.small⟩

theorem Names.far3 {w w' : World} {base top cx : Nat} {x : Option Addr} {K : List ByteArray} (h : Names w base x K cx) (hb : ∀ k, base ≤ k → k < top → w'.heap[k]? = w.heap[k]?) (ht : ∀ y, x = some y → y.block < top) : Names w' base x K cx :=
  ⟨owns_of_block h.own (fun y hy => by have := ht y hy; subst hy; have := h.own.lt _ rfl; exact hb _ this.1 (by assumption)), h.small⟩

theorem Row.keep {w w' : World} {b lo hi : Nat} {cs : Array Value} {t : TypeId} (h : Row w b cs t) (T : Touch lo hi w w') (hd : b < lo ∨ hi ≤ b) : Row w' b cs t := ⟨(T.block b h.lt hd).trans h.out⟩

/-- what l1ask answers -/
def AskAnsX (R : Nat) (a : Option Addr) (n c : Nat) (zs : List Int) (p : Nat) (w : World) (e : Ending) (w' : World) : Prop :=
  ∃ cl us lv x cx K q, e = .returned (.agg #[.string cl, .string us, .int .i64 lv, .slice x K.length cx]) ∧ Hid (AskX zs p cl us lv K q) ∧ cl.size ≤ 1000 ∧ us.size ≤ 1000 ∧ 0 ≤ lv ∧ lv ≤ 9999999 ∧ K.length ≤ 64 ∧ Names w' w.heap.size x K cx ∧ RdX w' R a n c zs q ∧ Touch R (R + 1) w w'

set_option maxRecDepth 100000 in
set_option maxHeartbeats 6400000 in
theorem l1ask_x (R : Nat) (a : Option Addr) (n c : Nat) (zs : List Int) (p : Nat) (w : World) (h : RdX w R a n c zs p) :
    Calls Tryz.prog 12 #[.pointer (some ⟨R, 0, none⟩)] w fun e w' => AskAnsX R a n c zs p w e w' := by
  have hR := h.lt
  have R0 := Row.new w #[.string ⟨#[]⟩, .string ⟨#[]⟩, .int .i64 0, .slice none 0 0] 25
  have B0 := (Below.refl w.heap.size w).alloc (Nat.le_refl _) (.cells #[.string ⟨#[]⟩, .string ⟨#[]⟩, .int .i64 0, .slice none 0 0] 25)
  have z0 : (w.alloc (.cells #[.string ⟨#[]⟩, .string ⟨#[]⟩, .int .i64 0, .slice none 0 0] 25)).heap.size = w.heap.size + 1 := by simp
  go_enter Tryz.func12, Tryz.ntmps12
  go_wp2_with fail
  generalize w.alloc (.cells #[.string ⟨#[]⟩, .string ⟨#[]⟩, .int .i64 0, .slice none 0 0] 25) = w0 at R0 B0 z0 ⊢
  have h0 := h.after B0 hR
  have T0 : Touch R (R + 1) w w0 := Touch.of_below B0 (Nat.le_refl _)
  refine (l1word_x R a n c zs p w0 h0).mono ?_
  rintro e w1 ⟨cl, p1, rfl, X1, k1, h1, t1⟩
  have R1 := R0.keep t1 (by omega)
  have T1 := T0.trans t1
  clear h h0 R0 B0 T0
  have u1 := t1.size
  clear t1
  go_wp2_with fail
  refine (l1word_x R a n c zs p1 w1 h1).mono ?_
  rintro e w2 ⟨us, p2, rfl, X2, k2, h2, t2⟩
  have R2 := R1.keep t2 (by omega)
  have T2 := T1.trans t2
  have u2 := t2.size
  clear h1 R1 T1 t2
  go_wp2_with fail
  refine (l1set_x R a n c zs p2 w2 h2).mono ?_
  rintro e w3 ⟨x, cx, K, p3, rfl, X3, lK, N3, h3, t3⟩
  have R3 := R2.keep t3 (by omega)
  have T3 := T2.trans t3
  have u3 := t3.size
  have top3 : ∀ y, x = some y → y.block < w3.heap.size := fun y hy => by subst hy; exact (N3.own.lt _ rfl).2
  clear h2 R2 T2 t3
  have B4 := (Below.refl w3.heap.size w3).alloc (Nat.le_refl _) (.cells #[.string cl, .string us, .int .i64 0, .slice x K.length cx] 25)
  have RA := Row.new w3 #[.string cl, .string us, .int .i64 0, .slice x K.length cx] 25
  have z4 : (w3.alloc (.cells #[.string cl, .string us, .int .i64 0, .slice x K.length cx] 25)).heap.size = w3.heap.size + 1 := by simp
  have R4 := R3.alloc (.cells #[.string cl, .string us, .int .i64 0, .slice x K.length cx] 25)
  have N4 := N3.below B4 (Nat.le_refl _)
  have h4 := h3.after B4 h3.lt
  have T4 := T3.then_below B4 T3.size
  go_wp2_with fail
  generalize w3.alloc (.cells #[.string cl, .string us, .int .i64 0, .slice x K.length cx] 25) = w4 at B4 RA z4 R4 N4 h4 T4 ⊢
  refine (next_x R a n c zs p3 w4 h4).mono ?_
  rintro e w5 ⟨y, p5, rfl, X5, y0, y1, h5, t5⟩
  have R5 := R4.keep t5 (by omega)
  have RA5 := RA.keep t5 (by omega)
  have N5 := N4.touch t5 (by omega)
  have T5 := T4.trans t5
  have u5 := t5.size
  clear h4 R4 RA N4 T4 t5 h3 R3 T3 N3 B4
  have N5 := N5.mono (base' := w.heap.size + 1) (by omega)
  have qa := RA5.cell 0
  have qb := RA5.cell 1
  have qc := RA5.cell 2
  have qd := RA5.cell 3
  have fa := fun j => RA5.frozen j
  simp at qa qb qc qd
  have re := R5.cell 0
  have rf := R5.cell 1
  have rg := R5.cell 2
  have rh := R5.cell 3
  have fr := fun j => R5.frozen j
  simp at re rf rg rh
  have ne3 : w.heap.size ≠ w3.heap.size := by omega
  by_cases h240 : 240 < y
  · go_wp2_with fail
    have R6 : Row ((w5.setCell ⟨w3.heap.size, 2, none⟩ (.int .i64 (y % 12))).setCell ⟨w3.heap.size, 2, none⟩ (.int .i64 9999999)) w.heap.size #[.string ⟨#[]⟩, .string ⟨#[]⟩, .int .i64 0, .slice none 0 0] 25 := (R5.setFar (p := ⟨w3.heap.size, 2, none⟩) ne3 _).setFar (p := ⟨w3.heap.size, 2, none⟩) ne3 _
    have R7 := put4_row R6 (.string cl) (.string us) (.int .i64 9999999) (.slice x K.length cx)
    have g0 := R7.cell 0
    have g1 := R7.cell 1
    have g2 := R7.cell 2
    have g3 := R7.cell 3
    simp only [put4] at g0 g1 g2 g3
    simp at g0 g1 g2 g3
    have BF : Below w.heap.size w5 (put4 ((w5.setCell ⟨w3.heap.size, 2, none⟩ (.int .i64 (y % 12))).setCell ⟨w3.heap.size, 2, none⟩ (.int .i64 9999999)) w.heap.size (.string cl) (.string us) (.int .i64 9999999) (.slice x K.length cx)) := put4_below (((Below.refl w.heap.size w5).setCell (p := ⟨w3.heap.size, 2, none⟩) (by show w.heap.size ≤ w3.heap.size; omega) _).setCell (p := ⟨w3.heap.size, 2, none⟩) (by show w.heap.size ≤ w3.heap.size; omega) _) (Nat.le_refl _) _ _ _ _
    have NF : Names (put4 ((w5.setCell ⟨w3.heap.size, 2, none⟩ (.int .i64 (y % 12))).setCell ⟨w3.heap.size, 2, none⟩ (.int .i64 9999999)) w.heap.size (.string cl) (.string us) (.int .i64 9999999) (.slice x K.length cx)) (w.heap.size + 1) x K cx := N5.far3 (fun k h1 h2 => by rw [put4_block _ _ _ _ _ _ _ (by omega), heap_setCell_other _ _ _ _ (by show k ≠ w3.heap.size; omega), heap_setCell_other _ _ _ _ (by show k ≠ w3.heap.size; omega)]) top3
    refine bodyPost_ret (v := .agg #[.string cl, .string us, .int .i64 9999999, .slice x K.length cx]) (by simp [results, Tryz.results12, go_sem, g0, g1, g2, g3]) rfl ?_
    refine ⟨cl, us, 9999999, x, cx, K, p5, rfl, hide ⟨by rw [unhide X1], by rw [unhide X1, unhide X2], p3, by rw [unhide X1, unhide X2]; exact unhide X3, by rw [unhide X5], by rw [unhide X5]; exact (if_pos h240).symm⟩, k1, k2, by omega, by omega, lK, NF.mono (Nat.le_succ _), h5.after BF hR, T5.then_below BF (Nat.le_refl _)⟩
  · go_wp2_with fail
    have R6 : Row (w5.setCell ⟨w3.heap.size, 2, none⟩ (.int .i64 (y % 12))) w.heap.size #[.string ⟨#[]⟩, .string ⟨#[]⟩, .int .i64 0, .slice none 0 0] 25 := R5.setFar (p := ⟨w3.heap.size, 2, none⟩) ne3 _
    have R7 := put4_row R6 (.string cl) (.string us) (.int .i64 (y % 12)) (.slice x K.length cx)
    have g0 := R7.cell 0
    have g1 := R7.cell 1
    have g2 := R7.cell 2
    have g3 := R7.cell 3
    simp only [put4] at g0 g1 g2 g3
    simp at g0 g1 g2 g3
    have BF : Below w.heap.size w5 (put4 (w5.setCell ⟨w3.heap.size, 2, none⟩ (.int .i64 (y % 12))) w.heap.size (.string cl) (.string us) (.int .i64 (y % 12)) (.slice x K.length cx)) := put4_below ((Below.refl w.heap.size w5).setCell (p := ⟨w3.heap.size, 2, none⟩) (by show w.heap.size ≤ w3.heap.size; omega) _) (Nat.le_refl _) _ _ _ _
    have NF : Names (put4 (w5.setCell ⟨w3.heap.size, 2, none⟩ (.int .i64 (y % 12))) w.heap.size (.string cl) (.string us) (.int .i64 (y % 12)) (.slice x K.length cx)) (w.heap.size + 1) x K cx := N5.far3 (fun k h1 h2 => by rw [put4_block _ _ _ _ _ _ _ (by omega), heap_setCell_other _ _ _ _ (by show k ≠ w3.heap.size; omega)]) top3
    refine bodyPost_ret (v := .agg #[.string cl, .string us, .int .i64 (y % 12), .slice x K.length cx]) (by simp [results, Tryz.results12, go_sem, g0, g1, g2, g3]) rfl ?_
    refine ⟨cl, us, (y % 12), x, cx, K, p5, rfl, hide ⟨by rw [unhide X1], by rw [unhide X1, unhide X2], p3, by rw [unhide X1, unhide X2]; exact unhide X3, by rw [unhide X5], by rw [unhide X5]; exact (if_neg (by omega)).symm⟩, k1, k2, by omega, by omega, lK, NF.mono (Nat.le_succ _), h5.after BF hR, T5.then_below BF (Nat.le_refl _)⟩

end Go.Proofs.YtnahfogbemfngaaGreatDoor

/-
  Safe: the model and the program. Own work.
-/
import Derived.Test.YtjapdeehnfoonaaGreatDoorSFN
import Derived.Test.YtjapdeehnfoonaaGreatDoorZL
namespace Go.Proofs.YtjapdeehnfoonaaGreatDoor
open Go.RowKit
set_option linter.unusedVariables false

theorem safeL_leaf {op : Int} (h : 1 ≤ op ∧ op ≤ 7) : safeL op [] = true := by
  rw [safeL, decide_eq_false (by omega)]
  rfl

theorem l4of_any (a : Option Addr) (n c : Nat) (N : List Nd) {i : Nat} {e : Ex} (t : IsT N i e) : ∀ w, Nds w a n c N → Calls Tryz.prog 13 #[.slice a n c, .int .i64 i] w (L4Ans (safeE e) w) := by
  have leaf : ∀ {i : Nat} {x : Nd}, N[i]? = some x → (1 ≤ x.op ∧ x.op ≤ 7) → x.kids = [] → ∀ w, Nds w a n c N → Calls Tryz.prog 13 #[.slice a n c, .int .i64 i] w (L4Ans true w) := fun {i x} h ho hk w hN => by
    have := l4of_kids a n c N w hN i x h [] (by rw [hk]; rfl) (fun j h1 => absurd h1 (by rw [hk]; simp))
    rw [safeL_leaf ho] at this
    exact this
  induction t with
  | int h ho hk => exact leaf h (by omega) hk
  | text h ho hk => exact leaf h (by omega) hk
  | bool h ho hk => exact leaf h (by omega) hk
  | set h ho hk a n c => exact leaf h (by omega) hk
  | name h ho hk => exact leaf h (by omega) hk
  | attr h ho hk => exact leaf h (by omega) hk
  | lett h ho hk => exact leaf h (by omega) hk
  | @un i k x e h ho hk hi t ih =>
    intro w hN
    have := l4of_kids a n c N w hN i x h [safeE e] (by rw [hk]; rfl) (fun j h1 h2 W hW => by
      obtain rfl : j = 0 := by simpa using h2
      have e1 : x.kids[0] = (k : Int) := by simp [hk]
      rw [e1]
      exact ih W (hN.below hW (Nat.le_refl _)))
    have e2 : safeL x.op [safeE e] = safeE (.un i x.op e) := by
      rw [safeL, safeE]
      have : decide (x.op = 8 ∨ (11 ≤ x.op ∧ x.op ≤ 16)) = decide (x.op = 8) := by
        rw [decide_eq_decide]
        constructor
        · rintro (q | q)
          · exact q
          · omega
        · exact .inl
      rw [this]
      simp
    rw [e2] at this
    exact this
  | @bin i k l x e f h ho hk hi t u ih1 ih2 =>
    intro w hN
    have := l4of_kids a n c N w hN i x h [safeE e, safeE f] (by rw [hk]; rfl) (fun j h1 h2 W hW => by
      have hj : j = 0 ∨ j = 1 := by simp at h2; omega
      rcases hj with rfl | rfl
      · have e1 : x.kids[0] = (k : Int) := by simp [hk]
        rw [e1]
        exact ih1 W (hN.below hW (Nat.le_refl _))
      · have e1 : x.kids[1] = (l : Int) := by simp [hk]
        rw [e1]
        exact ih2 W (hN.below hW (Nat.le_refl _)))
    have e2 : safeL x.op [safeE e, safeE f] = safeE (.bin i x.op e f) := by
      rw [safeL, safeE]
      have : decide (x.op = 8 ∨ (11 ≤ x.op ∧ x.op ≤ 16)) = decide (11 ≤ x.op ∧ x.op ≤ 16) := by
        rw [decide_eq_decide]
        constructor
        · rintro (q | q)
          · omega
          · exact q
        · exact .inr
      rw [this]
      simp
    rw [e2] at this
    exact this
  | @ite i k l m x e f g h ho hk hi t u v ih1 ih2 ih3 =>
    intro w hN
    have := l4of_kids a n c N w hN i x h [safeE e, safeE f, safeE g] (by rw [hk]; rfl) (fun j h1 h2 W hW => by
      have hj : j = 0 ∨ j = 1 ∨ j = 2 := by simp at h2; omega
      rcases hj with rfl | rfl | rfl
      · have e1 : x.kids[0] = (k : Int) := by simp [hk]
        rw [e1]
        exact ih1 W (hN.below hW (Nat.le_refl _))
      · have e1 : x.kids[1] = (l : Int) := by simp [hk]
        rw [e1]
        exact ih2 W (hN.below hW (Nat.le_refl _))
      · have e1 : x.kids[2] = (m : Int) := by simp [hk]
        rw [e1]
        exact ih3 W (hN.below hW (Nat.le_refl _)))
    have e2 : safeL x.op [safeE e, safeE f, safeE g] = safeE (.ite i e f g) := by
      rw [safeL, safeE, ho, decide_eq_false (by omega)]
      simp
    rw [e2] at this
    exact this

/-- what is said of a node of a typed policy -/
def IsSf (N : List Nd) (L : List St) (T : List Int) (k : Int) (b : Bool) : Prop :=
  ∃ v, IsWT N L T v ∧ ((¬ (v = true ∧ 0 ≤ k ∧ k < N.length) ∧ b = false) ∨ (v = true ∧ ∃ (i : Nat) (e : Ex), k = i ∧ IsT N i e ∧ b = safeE e))

theorem IsSf.one {N : List Nd} {L : List St} {T : List Int} {k : Int} {b c : Bool} (h : IsSf N L T k b) (h' : IsSf N L T k c) : b = c := by
  obtain ⟨v, hv, h⟩ := h
  obtain ⟨v', hv', h'⟩ := h'
  obtain rfl := hv.one hv'
  rcases h with ⟨h1, rfl⟩ | ⟨h1, i, e, rfl, h2, rfl⟩
  · rcases h' with ⟨_, rfl⟩ | ⟨k1, i, e, rfl, k2, _⟩
    · rfl
    · exact absurd ⟨k1, Int.natCast_nonneg _, by have := k2.lt; omega⟩ h1
  · rcases h' with ⟨k1, _⟩ | ⟨_, j, f, e1, k2, rfl⟩
    · exact absurd ⟨h1, Int.natCast_nonneg _, by have := h2.lt; omega⟩ k1
    · obtain rfl : i = j := by omega
      exact h2.safe_one k2

theorem isWT_well {N : List Nd} {L : List St} {T : List Int} (h : IsWT N L T true) : wellT N L = true := by
  rcases h with ⟨_, h⟩ | ⟨h, _⟩
  · cases h
  · exact h

set_option maxRecDepth 100000 in
set_option maxHeartbeats 3200000 in
theorem sSafe_any (a b e : Option Addr) (n c m d k f : Nat) (N : List Nd) (L : List St) (T : List Int) (nd : Int) (w : World) (h1 : Nds w a n c N) (h2 : Sts w b m d L) (h3 : Ints w e k f T) :
    Calls Tryz.prog 5 #[.agg #[.slice a n c, .slice b m d, .slice e k f], .int .i64 nd] w fun r w' => (∃ v, r = .returned (.bool v) ∧ IsSf N L T nd v) ∧ Below w.heap.size w w' := by
  have HN := hide h1.len
  have sn := h1.small
  have R0 := Row.new w #[.slice a n c, .slice b m d, .slice e k f] 32
  have B0 := (Below.refl w.heap.size w).alloc (Nat.le_refl _) (.cells #[.slice a n c, .slice b m d, .slice e k f] 32)
  have N0 := h1.below B0 (Nat.le_refl _)
  have L0 := h2.below B0 (Nat.le_refl _)
  have I0 := h3.below B0 (Nat.le_refl _)
  clear h1 h2 h3
  obtain ⟨p0, p1, p2⟩ := rowT3 R0
  by_cases hn0 : nd < 0
  · have HX := hide (show ∀ v, IsWT N L T v → IsSf N L T nd false from fun v hv => ⟨v, hv, .inl ⟨fun q => by omega, rfl⟩⟩)
    go_enter Tryz.func5, Tryz.ntmps5
    go_wp2_with fail
    refine (sWellTyped_any _ _ _ _ _ _ _ _ _ N L T _ N0 L0 I0).mono ?_
    rintro r w1 ⟨⟨v, rfl, hv⟩, hb1⟩
    have HQ := hide (unhide HX v hv)
    have B1 := B0.trans (hb1.mono B0.size)
    clear hv HX
    dsimp only
    cases v
    all_goals
      go_wp2_with fail
      go_ret
      exact ⟨⟨false, rfl, unhide HQ⟩, B1⟩
  · have in0 : ¬ (nd < 0) := hn0
    obtain ⟨q, rfl⟩ : ∃ q : Nat, nd = q := ⟨nd.toNat, by omega⟩
    by_cases hqn : n ≤ q
    · have iqn : (n : Int) ≤ (q : Int) := by omega
      have HX := hide (show ∀ v, IsWT N L T v → IsSf N L T q false from fun v hv => ⟨v, hv, .inl ⟨fun z => by have := z.2.2; rw [unhide HN] at this; omega, rfl⟩⟩)
      go_enter Tryz.func5, Tryz.ntmps5
      go_wp2_with fail
      refine (sWellTyped_any _ _ _ _ _ _ _ _ _ N L T _ N0 L0 I0).mono ?_
      rintro r w1 ⟨⟨v, rfl, hv⟩, hb1⟩
      have HQ := hide (unhide HX v hv)
      have B1 := B0.trans (hb1.mono B0.size)
      obtain ⟨q0, q1, q2⟩ := rowT3 (R0.after hb1 (Nat.le_refl _))
      clear hv HX
      dsimp only
      cases v
      all_goals
        go_wp2_with fail
        go_ret
        exact ⟨⟨false, rfl, unhide HQ⟩, B1⟩
    · have iqn : ¬ ((n : Int) ≤ (q : Int)) := by omega
      have HX := hide (show IsWT N L T false → IsSf N L T q false from fun hv => ⟨false, hv, .inl ⟨fun z => absurd z.1 (by decide), rfl⟩⟩)
      have HY := hide (show IsWT N L T true → ∃ e, IsT N q e ∧ IsSf N L T q (safeE e) from fun hv => by
        obtain ⟨Es, t1, t2⟩ := treesT_ex (wellPT_of (isWT_well hv))
        have hq : q < Es.length := by rw [t1, unhide HN]; omega
        exact ⟨Es[q], t2 q hq, true, hv, .inr ⟨rfl, q, _, rfl, t2 q hq, rfl⟩⟩)
      clear hqn
      go_enter Tryz.func5, Tryz.ntmps5
      go_wp2_with fail
      refine (sWellTyped_any _ _ _ _ _ _ _ _ _ N L T _ N0 L0 I0).mono ?_
      rintro r w1 ⟨⟨v, rfl, hv⟩, hb1⟩
      have B1 := B0.trans (hb1.mono B0.size)
      have N1 := N0.below hb1 (Nat.le_refl _)
      obtain ⟨q0, q1, q2⟩ := rowT3 (R0.after hb1 (Nat.le_refl _))
      cases v with
      | false =>
        have HQ := hide (unhide HX hv)
        clear hv HX HY
        dsimp only
        go_wp2_with fail
        go_ret
        exact ⟨⟨false, rfl, unhide HQ⟩, B1⟩
      | true =>
        obtain ⟨t, ht, hsf⟩ := unhide HY hv
        have HQ := hide hsf
        have HC := hide (l4of_any a n c N ht)
        clear hv HX HY hsf ht
        dsimp only
        go_wp2_with fail
        refine (unhide HC _ N1).mono ?_
        rintro r w2 ⟨k5, rfl, hs2, hb2⟩
        have B2 := B1.trans (hb2.mono B1.size)
        have HS2 := hide (hs2 w2 ⟨Nat.le_refl _, fun _ _ _ => rfl⟩)
        clear hs2
        dsimp only
        go_wp2_with fail
        refine (unhide HS2).mono ?_
        rintro r w3 ⟨rfl, hb3⟩
        dsimp only
        go_wp2_with fail
        go_ret
        exact ⟨⟨_, rfl, unhide HQ⟩, B2.trans (hb3.mono B2.size)⟩

set_option maxRecDepth 100000 in
set_option maxHeartbeats 3200000 in
theorem iSafe_any (a b e : Option Addr) (n c m d k f : Nat) (N : List Nd) (L : List St) (T : List Int) (nd : Int) (aT aN aA : Addr) (w : World) (h1 : Nds w a n c N) (h2 : Sts w b m d L) (h3 : Ints w e k f T) (hT : TabOK w) (hV : Vok w aT) (hE : Eok w aN aA) :
    Calls Tryz.prog 7 #[.agg #[.slice a n c, .slice b m d, .slice e k f], .int .i64 nd] w fun r w' => (∃ v, r = .returned (.bool v) ∧ IsSf N L T nd v) ∧ Below w.heap.size w w' := by
  have HN := hide h1.len
  have sn := h1.small
  have R0 := Row.new w #[.slice a n c, .slice b m d, .slice e k f] 32
  have B0 := (Below.refl w.heap.size w).alloc (Nat.le_refl _) (.cells #[.slice a n c, .slice b m d, .slice e k f] 32)
  have N0 := h1.below B0 (Nat.le_refl _)
  have L0 := h2.below B0 (Nat.le_refl _)
  have I0 := h3.below B0 (Nat.le_refl _)
  have T0 := hT.below B0 (Nat.le_refl _)
  have V0 := hV.below B0 (Nat.le_refl _)
  have E0 := hE.below B0 (Nat.le_refl _)
  clear h1 h2 h3 hT hV hE
  obtain ⟨p0, p1, p2⟩ := rowT3 R0
  by_cases hn0 : nd < 0
  · have HX := hide (show ∀ v, IsWT N L T v → IsSf N L T nd false from fun v hv => ⟨v, hv, .inl ⟨fun q => by omega, rfl⟩⟩)
    go_enter Tryz.func7, Tryz.ntmps7
    go_wp2_with fail
    refine (iWellTyped_any _ _ _ _ _ _ _ _ _ N L T aT aN aA _ N0 L0 I0 T0 V0 E0).mono ?_
    rintro r w1 ⟨⟨v, rfl, hv⟩, hb1⟩
    have HQ := hide (unhide HX v hv)
    have B1 := B0.trans (hb1.mono B0.size)
    clear hv HX
    dsimp only
    cases v
    all_goals
      go_wp2_with fail
      go_ret
      exact ⟨⟨false, rfl, unhide HQ⟩, B1⟩
  · have in0 : ¬ (nd < 0) := hn0
    obtain ⟨q, rfl⟩ : ∃ q : Nat, nd = q := ⟨nd.toNat, by omega⟩
    by_cases hqn : n ≤ q
    · have iqn : (n : Int) ≤ (q : Int) := by omega
      have HX := hide (show ∀ v, IsWT N L T v → IsSf N L T q false from fun v hv => ⟨v, hv, .inl ⟨fun z => by have := z.2.2; rw [unhide HN] at this; omega, rfl⟩⟩)
      go_enter Tryz.func7, Tryz.ntmps7
      go_wp2_with fail
      refine (iWellTyped_any _ _ _ _ _ _ _ _ _ N L T aT aN aA _ N0 L0 I0 T0 V0 E0).mono ?_
      rintro r w1 ⟨⟨v, rfl, hv⟩, hb1⟩
      have HQ := hide (unhide HX v hv)
      have B1 := B0.trans (hb1.mono B0.size)
      obtain ⟨q0, q1, q2⟩ := rowT3 (R0.after hb1 (Nat.le_refl _))
      clear hv HX
      dsimp only
      cases v
      all_goals
        go_wp2_with fail
        go_ret
        exact ⟨⟨false, rfl, unhide HQ⟩, B1⟩
    · have iqn : ¬ ((n : Int) ≤ (q : Int)) := by omega
      have iql : (q : Int) < (n : Int) := by omega
      have HX := hide (show IsWT N L T false → IsSf N L T q false from fun hv => ⟨false, hv, .inl ⟨fun z => absurd z.1 (by decide), rfl⟩⟩)
      have HY := hide (show IsWT N L T true → ∀ e, IsT N q e → IsSf N L T q (safeE e) from fun hv e he => ⟨true, hv, .inr ⟨rfl, q, e, rfl, he, rfl⟩⟩)
      have Hqn := hide (show q < n by omega)
      clear hqn
      go_enter Tryz.func7, Tryz.ntmps7
      go_wp2_with fail
      refine (iWellTyped_any _ _ _ _ _ _ _ _ _ N L T aT aN aA _ N0 L0 I0 T0 V0 E0).mono ?_
      rintro r w1 ⟨⟨v, rfl, hv⟩, hb1⟩
      have B1 := B0.trans (hb1.mono B0.size)
      have N1 := N0.below hb1 (Nat.le_refl _)
      obtain ⟨q0, q1, q2⟩ := rowT3 (R0.after hb1 (Nat.le_refl _))
      cases v with
      | false =>
        have HQ := hide (unhide HX hv)
        clear hv HX HY
        dsimp only
        go_wp2_with fail
        go_ret
        exact ⟨⟨false, rfl, unhide HQ⟩, B1⟩
      | true =>
        have HY2 := hide (unhide HY hv)
        have HC := hide (treesOf_any a n c N w1 w1 N1 (Below.refl _ _) Ex.typed (makes_typed (wellPT_of (isWT_well hv))))
        clear hv HX HY
        dsimp only
        go_wp2_with fail
        refine (unhide HC).mono ?_
        rintro r w2 ⟨⟨tv, Es, rfl, hl, hO⟩, hb2⟩
        have B2 := B1.trans (hb2.mono B1.size)
        obtain ⟨ta, tc, rfl, hts⟩ := hO.trs (by omega)
        have hql : q < Es.length := by rw [hl]; exact unhide Hqn
        obtain ⟨tb, to, rfl, htb, ct⟩ := hts.cells q hql
        have HQ := hide (unhide HY2 _ (hO.tree q hql))
        have HS := hide (safe_any Es[q])
        have ct2 := ct
        obtain ⟨tt, tu, htu⟩ := Es[q].form
        rw [htu] at ct2 HS
        generalize safeE Es[q] = sb at HQ HS
        clear ct htu hO hts hql
        rw [hl]
        dsimp only
        go_wp2_with fail
        refine (unhide HS _).mono ?_
        rintro r w3 ⟨rfl, hb3⟩
        dsimp only
        go_wp2_with fail
        go_ret
        exact ⟨⟨_, rfl, unhide HQ⟩, B2.trans (hb3.mono B2.size)⟩

end Go.Proofs.YtjapdeehnfoonaaGreatDoor

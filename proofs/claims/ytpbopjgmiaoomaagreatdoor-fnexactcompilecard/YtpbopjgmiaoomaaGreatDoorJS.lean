/-
  The model's look at the form of a typed policy. Own work.
-/
import Derived.Test.YtpbopjgmiaoomaaGreatDoorMXAK
import Derived.Test.YtpbopjgmiaoomaaGreatDoorJB
namespace Go.Proofs.YtpbopjgmiaoomaaGreatDoor
open Go.RowKit
set_option linter.unusedVariables false

theorem allU_iff_at (L : List Nd) : L.all fieldsU = true ↔ ∀ j, (h : j < L.length) → fieldsU L[j] = true := by
  rw [List.all_eq_true]
  constructor
  · intro h j hj; exact h _ (List.getElem_mem hj)
  · intro h x hx
    obtain ⟨j, hj, rfl⟩ := List.getElem_of_mem hx
    exact h j hj

theorem kids_threeU {N : List Nd} (h : N.all fieldsU = true) : ∀ ks ∈ N.map Nd.kids, ks.length ≤ 3 := by
  intro ks hks
  obtain ⟨x, hx, rfl⟩ := List.mem_map.1 hks
  have := List.all_eq_true.1 h x hx
  rw [fieldsU, Bool.and_eq_true, decide_eq_true_eq] at this
  have h1 := this.1
  have : kidN x.op ≤ 3 := by unfold kidN; repeat' split <;> try decide
  omega

def ShapeAnsU (n m : Nat) (N : List Nd) (L : List St) (e : Ending) : Prop := ∃ b : Bool, e = .returned (.bool b) ∧ (b = true ↔ (n ≤ 4000 ∧ 1 ≤ m ∧ m ≤ 600) ∧ N.all fieldsU = true ∧ ValidS N L)

theorem shape_noU {n m : Nat} {N : List Nd} {L : List St} (h : ¬ ((n ≤ 4000 ∧ 1 ≤ m ∧ m ≤ 600) ∧ N.all fieldsU = true ∧ ValidS N L)) : ShapeAnsU n m N L (.returned (.bool false)) := ⟨false, rfl, by constructor <;> intro k; cases k; exact absurd k h⟩

theorem isE_trueU {s : ByteArray} (h : s.size = 0) : s.toList.isEmpty = true := List.isEmpty_iff.2 ((tl_nil s).2 h)
theorem isE_falseU {s : ByteArray} (h : s.size ≠ 0) : s.toList.isEmpty = false := by rw [Bool.eq_false_iff]; intro k; exact h ((tl_nil s).1 (List.isEmpty_iff.1 k))

theorem ownsRow_neU {w : World} {base : Nat} {e : TypeId} {size : Nat} {v : Value} {n : Nat} {xs : List Value} (h : w.ownsRow base e size v n xs) : v.ownBlock ≠ some w.heap.size := fun k => by have := (h.lt _ k).2; omega

set_option maxRecDepth 100000 in
set_option maxHeartbeats 32000000 in
theorem l2shapeU_any (a b : Option Addr) (n c m d : Nat) (N : List Nd) (L : List St) (w : World) (h1 : Nds w a n c N) (h2 : Sts w b m d L) :
    Calls Tryz.prog 41 #[.slice a n c, .slice b m d, .bool true] w fun e w' => ShapeAnsU n m N L e ∧ Below w.heap.size w w' := by
  have s1 := h1.small
  have s2 := h2.small
  have HN := hide h1.len
  have HL := hide h2.len
  go_enter Tryz.func41, Tryz.ntmps41
  by_cases hn : 4000 < n
  · have ih : (4000 : Int) < (n : Int) := by omega
    have HX := hide (shape_noU (n := n) (m := m) (N := N) (L := L) (fun h => by omega))
    clear hn
    go_wp2_with fail
    go_ret
    exact ⟨unhide HX, Below.refl _ _⟩
  have ih : ¬ ((4000 : Int) < (n : Int)) := by omega
  by_cases hm : m < 1
  · have im : (m : Int) < 1 := by omega
    have HX := hide (shape_noU (n := n) (m := m) (N := N) (L := L) (fun h => by omega))
    clear hn hm
    go_wp2_with fail
    go_ret
    exact ⟨unhide HX, Below.refl _ _⟩
  have im : ¬ ((m : Int) < 1) := by omega
  by_cases hm6 : 600 < m
  · have im6 : (600 : Int) < (m : Int) := by omega
    have HX := hide (shape_noU (n := n) (m := m) (N := N) (L := L) (fun h => by omega))
    clear hn hm hm6
    go_wp2_with fail
    go_ret
    exact ⟨unhide HX, Below.refl _ _⟩
  have im6 : ¬ ((600 : Int) < (m : Int)) := by omega
  have hn4 : n ≤ 4000 := by omega
  have hm4 : m ≤ 600 := by omega
  have hm1 : 1 ≤ m := by omega
  clear hn hm hm6
  go_wp2_with fail
  go_loopw [33] (fun i wr => ∃ k : Nat, k ≤ n ∧ i = .int .i64 k ∧ Below w.heap.size w wr ∧ Hid (∀ j, (hj : j < N.length) → j < k → fieldsU N[j] = true)) (fun i _ => n - (intOf i).toNat)
  case atStart => exact ⟨0, by omega, rfl, Below.refl _ _, hide (fun j hj h => absurd h (by omega))⟩
  case round =>
    obtain ⟨k, hk, rfl, B1, Ha⟩ := hrel
    by_cases hlt : k < n
    · have ilt : (k : Int) < (n : Int) := by omega
      have hkl : k < N.length := by rw [unhide HN]; exact hlt
      have hsz := h1.sizes N[k] (List.getElem_mem hkl)
      obtain ⟨b', off, rfl, hb, an, nn, cn, ak, nk, ck, c0, c1, c2, c3, c4, hNm, hK⟩ := (h1.below B1 (Nat.le_refl _)).cells k hkl
      have Hno := hide (show fieldsU N[k] = false → ShapeAnsU n m N L (.returned (.bool false)) from fun e => shape_noU (fun h => by
        have := (allU_iff_at N).1 h.2.1 k hkl
        rw [this] at e
        cases e))
      have HY := hide (show fieldsU N[k] = true → ∀ j, (hj : j < N.length) → j < k + 1 → fieldsU N[j] = true from fun e j hj h' => by
        by_cases ej : j = k
        · subst ej; exact e
        · exact unhide Ha j hj (by omega))
      have Hlt := hide hlt
      clear Ha
      generalize N[k] = x at c0 c1 c2 c3 c4 hNm hK hsz Hno HY
      have HKL := hide hK.len
      have hKs := hK.small
      have B2 := B1.alloc B1.size (.cells #[.int .i64 x.op, .int .i64 x.num, .string x.text, .slice an nn cn, .slice ak nk ck] 103)
      have C2 := (Below.refl wr.heap.size wr).alloc (Nat.le_refl _) (.cells #[.int .i64 x.op, .int .i64 x.num, .string x.text, .slice an nn cn, .slice ak nk ck] 103)
      have N2 := hNm.below C2 (Nat.le_refl _)
      clear hNm hK
      cases hv : fieldsU x
      · have HX := hide (unhide Hno hv)
        have Hv := hide hv
        clear hv Hno HY
        go_wp2_with (go_at_call 69; refine (l2fieldsU_any x an nn cn ak nk ck _ N2 (unhide HKL).symm hsz hKs).mono ?_; rintro e w2 ⟨rfl, hb2⟩; rw [unhide Hv])
        go_ret
        exact ⟨unhide HX, B2.trans (hb2.mono B2.size)⟩
      · have HY2 := hide (unhide HY hv)
        have Hv := hide hv
        clear hv Hno HY
        go_wp2_with (go_at_call 69; refine (l2fieldsU_any x an nn cn ak nk ck _ N2 (unhide HKL).symm hsz hKs).mono ?_; rintro e w2 ⟨rfl, hb2⟩; rw [unhide Hv])
        go_roundw
        case rel => exact ⟨k + 1, unhide Hlt, by go_num, B2.trans (hb2.mono B2.size), HY2⟩
        case measure => have := unhide Hlt; simp [intOf]; omega
    · have e : k = n := by omega
      have HA := hide (show N.all fieldsU = true from (allU_iff_at N).2 (fun j hj => unhide Ha j hj (by have := unhide HN; omega)))
      have H3 := hide (kids_threeU (unhide HA))
      have HKn := hide (show (N.map Nd.kids).length = n by rw [List.length_map]; exact unhide HN)
      subst e
      have Bx := hide B1
      clear Ha hlt B1
      go_wp2_with fail
      go_loopw [9, 44] (fun v i wr => ∃ (q : Nat) (O : List Int), q ≤ m ∧ i = .int .i64 q ∧ Below w.heap.size w wr ∧ Hid (∀ j, (h : j < L.length) → j < q → stAtS L j h = true) ∧ Hid (ordF (N.map Nd.kids) k ((L.take q).flatMap rootsOf) = O) ∧ O.length ≤ 4 * k + 2 * q ∧ wr.ownsRow w.heap.size 3 1 v O.length (intsV O)) (fun _ i _ => m - (intOf i).toNat)
      case atStart => exact ⟨0, [], by omega, rfl, unhide Bx, hide (fun j h h' => absurd h' (by omega)), hide (by simp [ordF]), by simp, World.ownsRow_nil _ _ _ _⟩
      case round =>
        obtain ⟨q, O, hq, rfl, B1, Ha, HO, hOl, O1⟩ := hrel
        obtain ⟨xo, co, rfl, hxo⟩ := owns_form2 O1
        by_cases hlt : q < m
        · have ilt : (q : Int) < (m : Int) := by omega
          have hkl : q < L.length := by rw [unhide HL]; exact hlt
          have hsz := h2.sizes L[q] (List.getElem_mem hkl)
          obtain ⟨b', off, rfl, hb, c0, c1, c2, c3⟩ := (h2.below B1 (Nat.le_refl _)).cells q hkl
          have Hno := hide (show stmtS (decide (q + 1 = m)) L[q] = false → ShapeAnsU k m N L (.returned (.bool false)) from fun e => shape_noU (fun h => by
            have := (stmtsS_iff L).1 h.2.2.1 q hkl
            rw [stAtS, unhide HL, e] at this
            cases this))
          have HY := hide (show stmtS (decide (q + 1 = m)) L[q] = true → ∀ j, (h : j < L.length) → j < q + 1 → stAtS L j h = true from fun e j hj h' => by
            by_cases ej : j = q
            · subst ej; rw [stAtS, unhide HL]; exact e
            · exact unhide Ha j hj (by omega))
          have HOS := hide (show ordF (N.map Nd.kids) k ((L.take (q + 1)).flatMap rootsOf) = (rootsOf L[q]).foldl (fun o r => walkF (N.map Nd.kids) k r o) O by rw [roots_succ L q hkl, ordF_append, unhide HO])
          have Hlt := hide hlt
          clear Ha HO hxo
          generalize L[q] = s at c0 c1 c2 c3 hsz Hno HY HOS
          obtain ⟨kind, name, cond, grant⟩ := s
          simp only at c0 c1 c2 c3 hsz
          have R2 := Row.new wr #[.int .i64 kind, .string name, .int .i64 cond, .int .i64 grant] 49
          have B2 := B1.alloc B1.size (.cells #[.int .i64 kind, .string name, .int .i64 cond, .int .i64 grant] 49)
          have O2 := O1.alloc (.cells #[.int .i64 kind, .string name, .int .i64 cond, .int .i64 grant] 49)
          have hne := ownsRow_neU O1
          have z1 : (wr.alloc (.cells #[.int .i64 kind, .string name, .int .i64 cond, .int .i64 grant] 49)).heap.size = wr.heap.size + 1 := by simp
          have HWl := hide (fun r O => by have := walkF_len (K := N.map Nd.kids) (unhide H3) k r O; rw [unhide HKn] at this; exact this)
          by_cases kl : q + 1 = m
          · have el : ((q : Int) == (m : Int) - 1) = true := beq_iff_eq.2 (by omega)
            rw [decide_eq_true kl] at Hno HY
            clear kl
            by_cases k1 : kind = 1
            · have e1 : (kind == 1) = true := beq_iff_eq.2 k1
              subst k1
              have HX := hide (unhide Hno (by simp [stmtS]))
              clear Hno HY HOS HWl
              go_wp2_with fail
              go_ret
              exact ⟨unhide HX, B2⟩
            have e1 : (kind == 1) = false := beq_eq_false_iff_ne.2 k1
            by_cases k2 : kind = 2
            · have e2 : (kind == 2) = true := beq_iff_eq.2 k2
              subst k2
              clear k1
              have HX := hide (unhide Hno (by simp [stmtS]))
              clear Hno HY HOS HWl
              go_wp2_with fail
              go_ret
              exact ⟨unhide HX, B2⟩
            have e2 : (kind == 2) = false := beq_eq_false_iff_ne.2 k2
            by_cases k3 : kind = 3
            · have e3 : (kind == 3) = true := beq_iff_eq.2 k3
              subst k3
              clear k1 k2
              by_cases hnm : name.size = 0
              · have en := isE_trueU hnm
                by_cases kc : cond = -1
                · have ec : (cond == -1) = true := beq_iff_eq.2 kc
                  subst kc
                  by_cases ig : -1 ≤ grant
                  · by_cases ig0 : 0 ≤ grant
                    · skip
                      have HY2 := hide (unhide HY (by simp [stmtS, hnm, ig]))
                      obtain ⟨Ob, HW2⟩ : ∃ Ob, Hid (walkF (N.map Nd.kids) k grant O = Ob) := ⟨_, hide rfl⟩
                      have hlb : Ob.length ≤ max O.length (k + 3 * k) + 1 := by rw [← unhide HW2]; exact unhide HWl grant O
                      have HO2 := hide (show ordF (N.map Nd.kids) k ((L.take (q + 1)).flatMap rootsOf) = Ob by rw [unhide HOS]; rw [← unhide HW2]; simp [rootsOf, ig0])
                      clear Hno HY HOS
                      go_wp2_with (go_at_call 71; refine (l2walk_any _ k c N w w.heap.size h1 (Nat.le_refl _) hn4 (unhide H3) k grant O _ _ hn4 (.inl (Nat.le_of_eq (unhide HN))) (by omega) B2 B2.size O2).mono ?_; rintro e w5 ⟨v5, rfl, O5, hb5, K5⟩; rw [unhide HW2] at O5; have E5 := B2.trans hb5)
                      go_roundw
                      case rel => exact ⟨q + 1, Ob, unhide Hlt, by go_num, E5, HY2, HO2, by omega, O5⟩
                      case measure => have := unhide Hlt; simp [intOf]; omega
                    · skip
                      have HY2 := hide (unhide HY (by simp [stmtS, hnm, ig]))
                      have HO2 := hide (show ordF (N.map Nd.kids) k ((L.take (q + 1)).flatMap rootsOf) = O by rw [unhide HOS]; simp [rootsOf, ig0])
                      clear Hno HY HOS
                      go_wp2_with fail
                      go_roundw
                      case rel => exact ⟨q + 1, O, unhide Hlt, by go_num, B2, HY2, HO2, by omega, O2⟩
                      case measure => have := unhide Hlt; simp [intOf]; omega
                  · skip
                    have HX := hide (unhide Hno (by simp [stmtS, ig]))
                    clear Hno HY HOS HWl
                    go_wp2_with fail
                    go_ret
                    exact ⟨unhide HX, B2⟩
                · have ec : (cond == -1) = false := beq_eq_false_iff_ne.2 kc
                  have HX := hide (unhide Hno (by simp [stmtS, kc]))
                  clear Hno HY HOS HWl
                  go_wp2_with fail
                  go_ret
                  exact ⟨unhide HX, B2⟩
              · have en := isE_falseU hnm
                have HX := hide (unhide Hno (by simp [stmtS, hnm]))
                clear Hno HY HOS HWl
                go_wp2_with fail
                go_ret
                exact ⟨unhide HX, B2⟩
            have e3 : (kind == 3) = false := beq_eq_false_iff_ne.2 k3
            have HX := hide (unhide Hno (by simp [stmtS, k1, k2, k3]))
            clear Hno HY HOS HWl
            go_wp2_with fail
            go_ret
            exact ⟨unhide HX, B2⟩
          · have el : ((q : Int) == (m : Int) - 1) = false := beq_eq_false_iff_ne.2 (by omega)
            rw [decide_eq_false kl] at Hno HY
            clear kl
            by_cases k1 : kind = 1
            · have e1 : (kind == 1) = true := beq_iff_eq.2 k1
              subst k1
              cases hi : identB name
              · have Hi := hide hi
                clear hi
                have HX := hide (unhide Hno (by simp [stmtS, unhide Hi]))
                clear Hno HY HOS HWl
                go_wp2_with (go_at_call 70; refine (l2ident_any _ _ hsz).mono ?_; rintro e w2 ⟨rfl, hb2⟩; rw [unhide Hi]; have E2 := B2.trans (hb2.mono B2.size); have R3 := R2.after hb2 (Nat.le_refl _); have O3 := ownsRow_below O2 hb2 (Nat.le_refl _); have z2 := hb2.size; obtain ⟨q0, q1, q2, q3, qf⟩ := row4' R3)
                go_ret
                exact ⟨unhide HX, E2⟩
              · have Hi := hide hi
                clear hi
                by_cases ic : 0 ≤ cond
                · by_cases kg : grant = -1
                  · have eg : (grant == -1) = true := beq_iff_eq.2 kg
                    subst kg
                    have HY2 := hide (unhide HY (by simp [stmtS, unhide Hi, ic]))
                    obtain ⟨Oa, HW1⟩ : ∃ Oa, Hid (walkF (N.map Nd.kids) k cond O = Oa) := ⟨_, hide rfl⟩
                    have hla : Oa.length ≤ max O.length (k + 3 * k) + 1 := by rw [← unhide HW1]; exact unhide HWl cond O
                    have hcl := ic
                    have HO2 := hide (show ordF (N.map Nd.kids) k ((L.take (q + 1)).flatMap rootsOf) = Oa by rw [unhide HOS]; rw [← unhide HW1]; simp [rootsOf, ic])
                    clear Hno HY HOS
                    go_wp2_with (first | (go_at_call 70; refine (l2ident_any _ _ hsz).mono ?_; rintro e w2 ⟨rfl, hb2⟩; rw [unhide Hi]; have E2 := B2.trans (hb2.mono B2.size); have R3 := R2.after hb2 (Nat.le_refl _); have O3 := ownsRow_below O2 hb2 (Nat.le_refl _); have z2 := hb2.size; obtain ⟨q0, q1, q2, q3, qf⟩ := row4' R3) | (go_at_call 71; refine (l2walk_any _ k c N w w.heap.size h1 (Nat.le_refl _) hn4 (unhide H3) k cond O _ w2 hn4 (.inl (Nat.le_of_eq (unhide HN))) (by omega) E2 E2.size O3).mono ?_; rintro e w4 ⟨v4, rfl, O4, hb4, K4⟩; rw [unhide HW1] at O4; have E4 := E2.trans hb4; have R4 := R3.keep K4 hne; have hne4 : v4.ownBlock ≠ some wr.heap.size := (fun e => by rcases K4.2.1 _ e with x | x; exact hne x; (have := z2; omega)); obtain ⟨x4, c4, rfl, _⟩ := owns_form2 O4; obtain ⟨p0, p1, p2, p3, pf⟩ := row4' R4))
                    go_roundw
                    case rel => exact ⟨q + 1, Oa, unhide Hlt, by go_num, E4, HY2, HO2, by omega, O4⟩
                    case measure => have := unhide Hlt; simp [intOf]; omega
                  · have eg : (grant == -1) = false := beq_eq_false_iff_ne.2 kg
                    have HX := hide (unhide Hno (by simp [stmtS, unhide Hi, kg]))
                    clear Hno HY HOS HWl
                    go_wp2_with (go_at_call 70; refine (l2ident_any _ _ hsz).mono ?_; rintro e w2 ⟨rfl, hb2⟩; rw [unhide Hi]; have E2 := B2.trans (hb2.mono B2.size); have R3 := R2.after hb2 (Nat.le_refl _); have O3 := ownsRow_below O2 hb2 (Nat.le_refl _); have z2 := hb2.size; obtain ⟨q0, q1, q2, q3, qf⟩ := row4' R3)
                    go_ret
                    exact ⟨unhide HX, E2⟩
                · skip
                  have HX := hide (unhide Hno (by simp [stmtS, unhide Hi, ic]))
                  clear Hno HY HOS HWl
                  go_wp2_with (go_at_call 70; refine (l2ident_any _ _ hsz).mono ?_; rintro e w2 ⟨rfl, hb2⟩; rw [unhide Hi]; have E2 := B2.trans (hb2.mono B2.size); have R3 := R2.after hb2 (Nat.le_refl _); have O3 := ownsRow_below O2 hb2 (Nat.le_refl _); have z2 := hb2.size; obtain ⟨q0, q1, q2, q3, qf⟩ := row4' R3)
                  go_ret
                  exact ⟨unhide HX, E2⟩
            have e1 : (kind == 1) = false := beq_eq_false_iff_ne.2 k1
            by_cases k2 : kind = 2
            · have e2 : (kind == 2) = true := beq_iff_eq.2 k2
              subst k2
              clear k1
              by_cases hnm : name.size = 0
              · have en := isE_trueU hnm
                by_cases ic : 0 ≤ cond
                · by_cases ig : -1 ≤ grant
                  · by_cases ig0 : 0 ≤ grant
                    · skip
                      have HY2 := hide (unhide HY (by simp [stmtS, hnm, ic, ig]))
                      obtain ⟨Oa, HW1⟩ : ∃ Oa, Hid (walkF (N.map Nd.kids) k cond O = Oa) := ⟨_, hide rfl⟩
                      have hla : Oa.length ≤ max O.length (k + 3 * k) + 1 := by rw [← unhide HW1]; exact unhide HWl cond O
                      obtain ⟨Ob, HW2⟩ : ∃ Ob, Hid (walkF (N.map Nd.kids) k grant Oa = Ob) := ⟨_, hide rfl⟩
                      have hlb : Ob.length ≤ max Oa.length (k + 3 * k) + 1 := by rw [← unhide HW2]; exact unhide HWl grant Oa
                      have HO2 := hide (show ordF (N.map Nd.kids) k ((L.take (q + 1)).flatMap rootsOf) = Ob by rw [unhide HOS]; rw [← unhide HW2, ← unhide HW1]; simp [rootsOf, ic, ig0])
                      clear Hno HY HOS
                      go_wp2_with (first | (go_at_call 71; refine (l2walk_any _ k c N w w.heap.size h1 (Nat.le_refl _) hn4 (unhide H3) k grant Oa _ w4 hn4 (.inl (Nat.le_of_eq (unhide HN))) (by omega) E4 E4.size O4).mono ?_; rintro e w5 ⟨v5, rfl, O5, hb5, K5⟩; rw [unhide HW2] at O5; have E5 := E4.trans hb5) | (go_at_call 71; refine (l2walk_any _ k c N w w.heap.size h1 (Nat.le_refl _) hn4 (unhide H3) k cond O _ _ hn4 (.inl (Nat.le_of_eq (unhide HN))) (by omega) B2 B2.size O2).mono ?_; rintro e w4 ⟨v4, rfl, O4, hb4, K4⟩; rw [unhide HW1] at O4; have E4 := B2.trans hb4; have R4 := R2.keep K4 hne; have hne4 : v4.ownBlock ≠ some wr.heap.size := (fun e => by rcases K4.2.1 _ e with x | x; exact hne x; (have := z1; omega)); obtain ⟨x4, c4, rfl, _⟩ := owns_form2 O4; obtain ⟨p0, p1, p2, p3, pf⟩ := row4' R4))
                      go_roundw
                      case rel => exact ⟨q + 1, Ob, unhide Hlt, by go_num, E5, HY2, HO2, by omega, O5⟩
                      case measure => have := unhide Hlt; simp [intOf]; omega
                    · skip
                      have HY2 := hide (unhide HY (by simp [stmtS, hnm, ic, ig]))
                      obtain ⟨Oa, HW1⟩ : ∃ Oa, Hid (walkF (N.map Nd.kids) k cond O = Oa) := ⟨_, hide rfl⟩
                      have hla : Oa.length ≤ max O.length (k + 3 * k) + 1 := by rw [← unhide HW1]; exact unhide HWl cond O
                      have HO2 := hide (show ordF (N.map Nd.kids) k ((L.take (q + 1)).flatMap rootsOf) = Oa by rw [unhide HOS]; rw [← unhide HW1]; simp [rootsOf, ic, ig0])
                      clear Hno HY HOS
                      go_wp2_with (go_at_call 71; refine (l2walk_any _ k c N w w.heap.size h1 (Nat.le_refl _) hn4 (unhide H3) k cond O _ _ hn4 (.inl (Nat.le_of_eq (unhide HN))) (by omega) B2 B2.size O2).mono ?_; rintro e w4 ⟨v4, rfl, O4, hb4, K4⟩; rw [unhide HW1] at O4; have E4 := B2.trans hb4; have R4 := R2.keep K4 hne; have hne4 : v4.ownBlock ≠ some wr.heap.size := (fun e => by rcases K4.2.1 _ e with x | x; exact hne x; (have := z1; omega)); obtain ⟨x4, c4, rfl, _⟩ := owns_form2 O4; obtain ⟨p0, p1, p2, p3, pf⟩ := row4' R4)
                      go_roundw
                      case rel => exact ⟨q + 1, Oa, unhide Hlt, by go_num, E4, HY2, HO2, by omega, O4⟩
                      case measure => have := unhide Hlt; simp [intOf]; omega
                  · skip
                    have HX := hide (unhide Hno (by simp [stmtS, ig]))
                    clear Hno HY HOS HWl
                    go_wp2_with fail
                    go_ret
                    exact ⟨unhide HX, B2⟩
                · skip
                  have HX := hide (unhide Hno (by simp [stmtS, ic]))
                  clear Hno HY HOS HWl
                  go_wp2_with fail
                  go_ret
                  exact ⟨unhide HX, B2⟩
              · have en := isE_falseU hnm
                have HX := hide (unhide Hno (by simp [stmtS, hnm]))
                clear Hno HY HOS HWl
                go_wp2_with fail
                go_ret
                exact ⟨unhide HX, B2⟩
            have e2 : (kind == 2) = false := beq_eq_false_iff_ne.2 k2
            by_cases k3 : kind = 3
            · have e3 : (kind == 3) = true := beq_iff_eq.2 k3
              subst k3
              clear k1 k2
              have HX := hide (unhide Hno (by simp [stmtS]))
              clear Hno HY HOS HWl
              go_wp2_with fail
              go_ret
              exact ⟨unhide HX, B2⟩
            have e3 : (kind == 3) = false := beq_eq_false_iff_ne.2 k3
            have HX := hide (unhide Hno (by simp [stmtS, k1, k2, k3]))
            clear Hno HY HOS HWl
            go_wp2_with fail
            go_ret
            exact ⟨unhide HX, B2⟩
        · have e : q = m := by omega
          subst e
          have HT : L.take q = L := List.take_of_length_le (by rw [unhide HL]; exact Nat.le_refl _)
          rw [HT] at HO
          clear HT
          have HS := hide (show stmtsS L = true from (stmtsS_iff L).2 (fun j h => unhide Ha j h (by have := unhide HL; omega)))
          have HVS := hide (show ValidS N L ↔ stmtsS L = true ∧ O.length = k ∧ good O ∧ ∀ r ∈ L.flatMap rootsOf, depthF (N.map Nd.kids) k r ≤ 64 by
            rw [ValidS, unhide HN]
            rw [← unhide HO]
            exact Iff.rfl)
          have Hxo := hide hxo
          clear Ha hxo
          by_cases hol : O.length = k
          case neg =>
            have eol : ((O.length : Int) != (k : Int)) = true := bne_iff_ne.2 (by omega)
            have HX := hide (shape_noU (n := k) (m := q) (N := N) (L := L) (fun h => hol ((unhide HVS).1 h.2.2).2.1))
            clear hol
            go_wp2_with fail
            go_ret
            exact ⟨unhide HX, B1⟩
          have eol : ((O.length : Int) != (k : Int)) = false := by rw [hol]; simp
          have HOL := hide hol
          clear hol
          go_wp2_with fail
          go_loop [138] (fun i => ∃ j : Nat, j ≤ O.length ∧ i = .int .i64 j ∧ Hid (∀ p, (h : p < O.length) → p < j → O[p] = (p : Int))) (fun i => O.length - (intOf i).toNat)
          case atStart => exact ⟨0, by omega, rfl, hide (fun p h h' => absurd h' (by omega))⟩
          case round =>
            obtain ⟨j, hj, rfl, Hg⟩ := hrel
            by_cases hjl : j < O.length
            · have ijl : (j : Int) < (O.length : Int) := by omega
              obtain ⟨g, rfl, hgl, hgc⟩ := unhide Hxo (by omega)
              have t0 := hgc j _ (show (intsV O)[j]? = some (.int .i64 O[j]) by rw [intsV, List.getElem?_map, List.getElem?_eq_getElem hjl]; rfl)
              have HG := hide (show O[j] = (j : Int) → ∀ p, (h : p < O.length) → p < j + 1 → O[p] = (p : Int) from fun e p h h' => by
                by_cases ej : p = j
                · subst ej; exact e
                · exact unhide Hg p h (by omega))
              have HB := hide (show O[j] ≠ (j : Int) → ShapeAnsU k q N L (.returned (.bool false)) from fun e => shape_noU (fun h => e ((good_iff O).1 ((unhide HVS).1 h.2.2).2.2.1 j hjl)))
              have Hjl := hide hjl
              clear hgc Hg
              generalize O[j] = y at t0 HG HB
              by_cases hy : y = (j : Int)
              · have ey : ((j : Int) != y) = false := by rw [hy]; simp
                have HG2 := hide (unhide HG hy)
                clear hy HG HB
                go_wp2_with fail
                go_round
                case rel => exact ⟨j + 1, unhide Hjl, by go_num, HG2⟩
                case measure => have := unhide Hjl; simp [intOf]; omega
              · have ey : ((j : Int) != y) = true := bne_iff_ne.2 (fun e => hy e.symm)
                have HX := hide (unhide HB hy)
                clear hy HG HB
                go_wp2_with fail
                go_ret
                exact ⟨unhide HX, B1⟩
            · have HGd := hide (show good O from (good_iff O).2 (fun p h => unhide Hg p h (by omega)))
              have HKA := hide (kids_ahead (N := N) (n := k) (rs := L.flatMap rootsOf) (unhide HN) (by rw [unhide HO]; exact unhide HOL) (by rw [unhide HO]; exact unhide HGd))
              have ijl : ¬ ((j : Int) < (O.length : Int)) := by omega
              have Bx := hide B1
              clear Hg Hxo O1 B1
              go_wp2_with fail
              go_loopw [149] (fun i wr => ∃ p : Nat, p ≤ q ∧ i = .int .i64 p ∧ Below w.heap.size w wr ∧ Hid (∀ r ∈ (L.take p).flatMap rootsOf, depthF (N.map Nd.kids) k r ≤ 64)) (fun i _ => q - (intOf i).toNat)
              case atStart => exact ⟨0, by omega, rfl, unhide Bx, hide (by simp)⟩
              case round =>
                obtain ⟨p, hp, rfl, B1, Hd⟩ := hrel
                by_cases hlt : p < q
                · have ilt : (p : Int) < (q : Int) := by omega
                  have hkl : p < L.length := by rw [unhide HL]; exact hlt
                  obtain ⟨b', off, rfl, hb, c0, c1, c2, c3⟩ := (h2.below B1 (Nat.le_refl _)).cells p hkl
                  have HRR := hide (show ∀ r ∈ rootsOf L[p], (0 ≤ r ∧ r < (k : Int)) ∧ r ∈ L.flatMap rootsOf from fun r hr => by
                    have hm : r ∈ L.flatMap rootsOf := List.mem_flatMap.2 ⟨L[p], List.getElem_mem hkl, hr⟩
                    exact ⟨(unhide HKA).2 r hm, hm⟩)
                  have HB := hide (show ∀ r ∈ rootsOf L[p], ¬ depthF (N.map Nd.kids) k r ≤ 64 → ShapeAnsU k q N L (.returned (.bool false)) from fun r hr e => shape_noU (fun h => e (((unhide HVS).1 h.2.2).2.2.2 r (unhide HRR r hr).2)))
                  have HStep := hide (show (∀ r ∈ rootsOf L[p], depthF (N.map Nd.kids) k r ≤ 64) → ∀ r ∈ (L.take (p + 1)).flatMap rootsOf, depthF (N.map Nd.kids) k r ≤ 64 from fun e r hr => by
                    rw [roots_succ L p hkl] at hr
                    rcases List.mem_append.1 hr with x | x
                    · exact unhide Hd r x
                    · exact e r x)
                  have Hlt := hide hlt
                  clear Hd
                  generalize L[p] = s at c0 c1 c2 c3 HRR HB HStep
                  obtain ⟨kind, name, cond, grant⟩ := s
                  simp only at c0 c1 c2 c3
                  have R2 := Row.new wr #[.int .i64 kind, .string name, .int .i64 cond, .int .i64 grant] 49
                  have B2 := B1.alloc B1.size (.cells #[.int .i64 kind, .string name, .int .i64 cond, .int .i64 grant] 49)
                  have HOK := hide (unhide HKA).1
                  have HDl := hide (depthF_le (N.map Nd.kids) k)
                  by_cases it : 0 ≤ cond
                  · skip
                    obtain ⟨⟨hr0t, hr1t⟩, _⟩ := unhide HRR cond (by simp [rootsOf, it])
                    obtain ⟨t, rfl⟩ : ∃ t : Nat, cond = (t : Int) := ⟨cond.toNat, by omega⟩
                    obtain ⟨D, HD⟩ : ∃ D, Hid (depthF (N.map Nd.kids) k (t : Int) = D) := ⟨_, hide rfl⟩
                    have hlD : D ≤ k + 1 := by rw [← unhide HD]; exact unhide HDl _
                    by_cases hD : 64 < D
                    · skip
                      have iD : (64 : Int) < (D : Int) := by omega
                      have HX := hide (unhide HB (t : Int) (by simp [rootsOf, it]) (by rw [unhide HD]; omega))
                      clear HB HStep HRR
                      go_wp2_with (go_at_call 72; refine (l2depth_any _ k c N w h1 (unhide HOK) k t _ (by omega) (by omega) (by omega) B2).mono ?_; rintro e wa ⟨rfl, hbwa⟩; rw [unhide HD]; have Ewa := B2.trans (hbwa.mono B2.size))
                      go_ret
                      exact ⟨unhide HX, Ewa⟩
                    · have iD : ¬ ((64 : Int) < (D : Int)) := by omega
                      by_cases iu : 0 ≤ grant
                      · skip
                        obtain ⟨⟨hr0u, hr1u⟩, _⟩ := unhide HRR grant (by simp [rootsOf, iu])
                        obtain ⟨u, rfl⟩ : ∃ u : Nat, grant = (u : Int) := ⟨grant.toNat, by omega⟩
                        obtain ⟨G, HG⟩ : ∃ G, Hid (depthF (N.map Nd.kids) k (u : Int) = G) := ⟨_, hide rfl⟩
                        have hlG : G ≤ k + 1 := by rw [← unhide HG]; exact unhide HDl _
                        by_cases hG : 64 < G
                        · skip
                          have iG : (64 : Int) < (G : Int) := by omega
                          have HX := hide (unhide HB (u : Int) (by simp [rootsOf, iu]) (by rw [unhide HG]; omega))
                          clear HB HStep HRR
                          go_wp2_with (first | (go_at_call 72; refine (l2depth_any _ k c N w h1 (unhide HOK) k u wa (by omega) (by omega) (by omega) Ewa).mono ?_; rintro e wb ⟨rfl, hbwb⟩; rw [unhide HG]; have Ewb := Ewa.trans (hbwb.mono Ewa.size)) | (go_at_call 72; refine (l2depth_any _ k c N w h1 (unhide HOK) k t _ (by omega) (by omega) (by omega) B2).mono ?_; rintro e wa ⟨rfl, hbwa⟩; rw [unhide HD]; have Ewa := B2.trans (hbwa.mono B2.size); obtain ⟨q0, q1, q2, q3, qf⟩ := row4' (R2.after hbwa (Nat.le_refl _))))
                          go_ret
                          exact ⟨unhide HX, Ewb⟩
                        · skip
                          have iG : ¬ ((64 : Int) < (G : Int)) := by omega
                          have HG2 := hide (unhide HStep (by intro r hr; simp [rootsOf, it, iu] at hr; rcases hr with rfl | rfl; rw [unhide HD]; omega; rw [unhide HG]; omega))
                          clear HB HStep HRR
                          go_wp2_with (first | (go_at_call 72; refine (l2depth_any _ k c N w h1 (unhide HOK) k u wa (by omega) (by omega) (by omega) Ewa).mono ?_; rintro e wb ⟨rfl, hbwb⟩; rw [unhide HG]; have Ewb := Ewa.trans (hbwb.mono Ewa.size)) | (go_at_call 72; refine (l2depth_any _ k c N w h1 (unhide HOK) k t _ (by omega) (by omega) (by omega) B2).mono ?_; rintro e wa ⟨rfl, hbwa⟩; rw [unhide HD]; have Ewa := B2.trans (hbwa.mono B2.size); obtain ⟨q0, q1, q2, q3, qf⟩ := row4' (R2.after hbwa (Nat.le_refl _))))
                          go_roundw
                          case rel => exact ⟨p + 1, unhide Hlt, by go_num, Ewb, HG2⟩
                          case measure => have := unhide Hlt; simp [intOf]; omega
                      · skip
                        have HG2 := hide (unhide HStep (by intro r hr; simp [rootsOf, it, iu] at hr; rw [hr, unhide HD]; omega))
                        clear HB HStep HRR
                        go_wp2_with (go_at_call 72; refine (l2depth_any _ k c N w h1 (unhide HOK) k t _ (by omega) (by omega) (by omega) B2).mono ?_; rintro e wa ⟨rfl, hbwa⟩; rw [unhide HD]; have Ewa := B2.trans (hbwa.mono B2.size); obtain ⟨q0, q1, q2, q3, qf⟩ := row4' (R2.after hbwa (Nat.le_refl _)))
                        go_roundw
                        case rel => exact ⟨p + 1, unhide Hlt, by go_num, Ewa, HG2⟩
                        case measure => have := unhide Hlt; simp [intOf]; omega
                  · by_cases iu : 0 ≤ grant
                    · skip
                      obtain ⟨⟨hr0u, hr1u⟩, _⟩ := unhide HRR grant (by simp [rootsOf, iu])
                      obtain ⟨u, rfl⟩ : ∃ u : Nat, grant = (u : Int) := ⟨grant.toNat, by omega⟩
                      obtain ⟨G, HG⟩ : ∃ G, Hid (depthF (N.map Nd.kids) k (u : Int) = G) := ⟨_, hide rfl⟩
                      have hlG : G ≤ k + 1 := by rw [← unhide HG]; exact unhide HDl _
                      by_cases hG : 64 < G
                      · skip
                        have iG : (64 : Int) < (G : Int) := by omega
                        have HX := hide (unhide HB (u : Int) (by simp [rootsOf, iu]) (by rw [unhide HG]; omega))
                        clear HB HStep HRR
                        go_wp2_with (go_at_call 72; refine (l2depth_any _ k c N w h1 (unhide HOK) k u _ (by omega) (by omega) (by omega) B2).mono ?_; rintro e wb ⟨rfl, hbwb⟩; rw [unhide HG]; have Ewb := B2.trans (hbwb.mono B2.size))
                        go_ret
                        exact ⟨unhide HX, Ewb⟩
                      · skip
                        have iG : ¬ ((64 : Int) < (G : Int)) := by omega
                        have HG2 := hide (unhide HStep (by intro r hr; simp [rootsOf, it, iu] at hr; rw [hr, unhide HG]; omega))
                        clear HB HStep HRR
                        go_wp2_with (go_at_call 72; refine (l2depth_any _ k c N w h1 (unhide HOK) k u _ (by omega) (by omega) (by omega) B2).mono ?_; rintro e wb ⟨rfl, hbwb⟩; rw [unhide HG]; have Ewb := B2.trans (hbwb.mono B2.size))
                        go_roundw
                        case rel => exact ⟨p + 1, unhide Hlt, by go_num, Ewb, HG2⟩
                        case measure => have := unhide Hlt; simp [intOf]; omega
                    · skip
                      have HG2 := hide (unhide HStep (by intro r hr; simp [rootsOf, it, iu] at hr))
                      clear HB HStep HRR
                      go_wp2_with fail
                      go_roundw
                      case rel => exact ⟨p + 1, unhide Hlt, by go_num, B2, HG2⟩
                      case measure => have := unhide Hlt; simp [intOf]; omega
                · have HD := hide (show ∀ r ∈ L.flatMap rootsOf, depthF (N.map Nd.kids) k r ≤ 64 by
                    have e : L.take p = L := List.take_of_length_le (by rw [unhide HL]; omega)
                    have := unhide Hd
                    rw [e] at this
                    exact this)
                  have HX := hide (show ShapeAnsU k q N L (.returned (.bool true)) from ⟨true, rfl, ⟨fun _ => ⟨⟨hn4, hm1, hm4⟩, unhide HA, (unhide HVS).2 ⟨unhide HS, unhide HOL, unhide HGd, unhide HD⟩⟩, fun _ => rfl⟩⟩)
                  have ilt : ¬ ((p : Int) < (q : Int)) := by omega
                  clear Hd
                  go_wp2_with fail
                  go_ret
                  exact ⟨unhide HX, B1⟩

end Go.Proofs.YtpbopjgmiaoomaaGreatDoor

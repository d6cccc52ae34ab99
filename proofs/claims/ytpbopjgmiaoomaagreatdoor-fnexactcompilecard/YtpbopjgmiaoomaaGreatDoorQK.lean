/-
  The statements, with their trees. Own work.
-/
import Derived.Test.YtpbopjgmiaoomaaGreatDoorMXAM
import Derived.Test.YtpbopjgmiaoomaaGreatDoorVPK
namespace Go.Proofs.YtpbopjgmiaoomaaGreatDoor
open Go.RowKit
set_option linter.unusedVariables false

def optV (Es : List Ex) (k : Int) : Value := if k = -1 then .nilIface else match Es[k.toNat]? with
  | some e => e.val
  | none => .nilIface

def stmV (Es : List Ex) (j : Nat) (s : St) : List Value := [.int .i64 j, .int .i64 s.kind, .string s.name, optV Es s.cond, optV Es s.grant]

def stC (Es : List Ex) : Nat → List St → List Value
  | _, [] => []
  | i, s :: L => stmV Es i s ++ stC Es (i + 1) L

theorem stC_len (Es : List Ex) : ∀ (L : List St) (i : Nat), (stC Es i L).length = L.length * 5
  | [], i => rfl
  | s :: L, i => by rw [stC, List.length_append, stC_len Es L (i + 1)]; simp [stmV]; omega

theorem stC_snoc (Es : List Ex) (s : St) : ∀ (L : List St) (i : Nat), stC Es i (L ++ [s]) = stC Es i L ++ stmV Es (i + L.length) s
  | [], i => by simp [stC]
  | x :: L, i => by
    rw [List.cons_append, stC, stC, stC_snoc Es s L (i + 1), List.append_assoc]
    congr 3
    simp; omega

theorem stC_at (Es : List Ex) : ∀ (L : List St) (i j : Nat) (h : j < L.length) (r : Nat), r < 5 → (stC Es i L)[j * 5 + r]? = (stmV Es (i + j) L[j])[r]?
  | x :: L, i, 0, h, r, hr => by
    rw [stC, Nat.zero_mul, Nat.zero_add, List.getElem?_append_left (by simp [stmV]; omega)]
    simp
  | x :: L, i, j + 1, h, r, hr => by
    rw [stC, List.getElem?_append_right (by simp [stmV]; omega)]
    have e : (j + 1) * 5 + r - (stmV Es i x).length = j * 5 + r := by simp [stmV]; omega
    rw [e, stC_at Es L (i + 1) j (by simpa using h) r hr]
    simp only [List.getElem_cons_succ]
    congr 2
    omega
  | [], _, _, h, _, _ => absurd h (by simp)

theorem infoStm : (Tryz.prog.info? 77).map (fun i => (i.zero, i.size, i.bytes)) = some (some (.agg #[.int .i64 0, .int .i64 0, .string ByteArray.empty, .nilIface, .nilIface]), 5, 64) := by kernel_rfl

theorem optV_none (Es : List Ex) : optV Es (-1) = .nilIface := rfl

theorem optV_some {Es : List Ex} {k : Int} (h0 : 0 ≤ k) (h : k < Es.length) : optV Es k = (Es[k.toNat]'(by omega)).val := by
  rw [optV, if_neg (by omega), List.getElem?_eq_getElem (by omega)]

theorem five_cell (w : World) (v0 v1 v2 v3 v4 : Value) (t : TypeId) (b : Nat) (hb : b = w.heap.size) : ∀ j u, ([v0, v1, v2, v3, v4] : List Value)[j]? = some u → (w.alloc (.cells #[v0, v1, v2, v3, v4] t)).cell? ((⟨b, 0, none⟩ : Addr).add j) = some u := fun j u h => by
  subst hb
  have hadd : (⟨w.heap.size, 0, none⟩ : Addr).add j = ⟨w.heap.size, j, none⟩ := by by_cases e : j = 0 <;> simp [Addr.add, e]
  rw [hadd, (Row.new w #[v0, v1, v2, v3, v4] t).cell j, ← h]
  simp

theorem own_set {w : World} {base : Nat} {e : TypeId} {size n : Nat} {v : Value} {xs : List Value} (h : w.ownsRow base e size v n xs) (p : Addr) (u : Value) (hp : ∀ q, v.ownBlock = some q → q ≠ p.block) : (w.setCell p u).ownsRow base e size v n xs :=
  owns_blocks2 h (fun q hq => heap_setCell_other w p q u (hp q hq))

set_option maxHeartbeats 1600000 in
set_option maxRecDepth 100000 in
theorem statementsOf_any (a b : Option Addr) (n c m d : Nat) (N : List Nd) (L : List St) (w0 w : World) (h : Nds w0 a n c N) (hw : Below w0.heap.size w0 w) (hL : Sts w b m d L) (P : Ex → Prop) (hM : Makes w0 N P)
    (hR : ∀ s ∈ L, (s.cond = -1 ∨ (0 ≤ s.cond ∧ s.cond < n)) ∧ (s.grant = -1 ∨ (0 ≤ s.grant ∧ s.grant < n))) :
    Calls Tryz.prog 24 #[.agg #[.slice a n c, .slice b m d]] w fun r w' => (∃ v Es, r = .returned v ∧ Es.length = n ∧ (∀ j, (h : j < Es.length) → IsT N j Es[j]) ∧ (∀ e ∈ Es, P e) ∧ w'.ownsRow w.heap.size 77 5 v m (stC Es 0 L)) ∧ Below w.heap.size w w' := by
  have hm := hL.small
  have hn := h.small
  have HL := hide hL.len
  have HR := hide hR
  have R0 := Row.new w #[.slice a n c, .slice b m d] 72
  have B0 := (Below.refl w.heap.size w).alloc (Nat.le_refl _) (.cells #[.slice a n c, .slice b m d] 72)
  have HT := hide (treesOf_any a n c N w0 _ h (hw.trans (B0.mono hw.size)) P hM)
  clear hR hM h
  obtain ⟨ie, hie, ez0, ez1, ez2⟩ := info_parts infoStm
  go_enter Tryz.func24, Tryz.ntmps24
  go_wp2_with fail
  refine (unhide HT).mono ?_
  rintro r w1 ⟨⟨v, Es, rfl, hEl, O1⟩, hb1⟩
  subst hEl
  have B1 := B0.trans (hb1.mono B0.size)
  have R1 := R0.after hb1 (Nat.le_refl _)
  have p0 : w1.cell? ⟨w.heap.size, 0, none⟩ = some (.slice a Es.length c) := R1.cell 0
  have p1 : w1.cell? ⟨w.heap.size, 1, none⟩ = some (.slice b m d) := R1.cell 1
  obtain ⟨av, cv, rfl, T1⟩ := O1.trs (by omega)
  have z1 := B1.size
  dsimp only
  go_wp2_with fail
  go_loopw [4, 14] (fun v i wr => ∃ (k : Nat), k ≤ m ∧ i = .int .i64 k ∧ wr.ownsRow w1.heap.size 77 5 v k (stC Es 0 (L.take k)) ∧ Below w1.heap.size w1 wr) (fun _ i _ => m - (intOf i).toNat)
  case atStart => exact ⟨0, by omega, rfl, World.ownsRow_nil _ _ _ _, Below.refl _ _⟩
  case round =>
    obtain ⟨k, hk, rfl, Q1, D1⟩ := hrel
    have zd := D1.size
    by_cases hlt : k < m
    · have ilt : (k : Int) < (m : Int) := by omega
      have hkl : k < L.length := by rw [unhide HL]; exact hlt
      obtain ⟨b1, off, rfl, hbl, c0, c1, c2, c3⟩ := (hL.below (B1.trans (D1.mono B1.size)) (Nat.le_refl _)).cells k hkl
      obtain ⟨hr1, hr2⟩ := unhide HR L[k] (List.getElem_mem hkl)
      have HS := hide (show stC Es 0 (L.take (k + 1)) = stC Es 0 (L.take k) ++ stmV Es k L[k] by
        rw [List.take_succ_eq_append_getElem hkl, stC_snoc, List.length_take, Nat.zero_add, show min k L.length = k by omega])
      have Hlt := hide hlt
      generalize L[k] = s at c0 c1 c2 c3 hr1 hr2 HS
      generalize stC Es 0 (L.take k) = A at Q1 HS
      obtain ⟨xv, kv, rfl, _⟩ := owns_form2 Q1
      have T2 := T1.below D1 (Nat.le_refl _)
      clear hkl hlt T1
      obtain ⟨cd, hcd⟩ : ∃ cd, cd = s.cond := ⟨_, rfl⟩
      obtain ⟨gr, hgr⟩ : ∃ gr, gr = s.grant := ⟨_, rfl⟩
      rw [← hcd] at c2 hr1
      rw [← hgr] at c3 hr2
      have HV := hide (show stmV Es k s = [.int .i64 k, .int .i64 s.kind, .string s.name, optV Es cd, optV Es gr] by rw [hcd, hgr]; rfl)
      rw [unhide HV] at HS
      clear hcd hgr HV
      generalize s.kind = kd at c0 HS
      generalize s.name = nm at c1 HS
      rcases hr1 with rfl | hr1
      · rcases hr2 with rfl | hr2
        · have Q2 := (Q1.alloc (.cells #[.int .i64 kd, .string nm, .int .i64 (-1), .int .i64 (-1)] 49)).alloc (.cells #[.int .i64 k, .int .i64 kd, .string nm, .nilIface, .nilIface] 77)
          have D2 := (D1.alloc D1.size (.cells #[.int .i64 kd, .string nm, .int .i64 (-1), .int .i64 (-1)] 49)).alloc (by simp; omega) (.cells #[.int .i64 k, .int .i64 kd, .string nm, .nilIface, .nilIface] 77)
          have HW := hide (show [Value.int .i64 k, .int .i64 kd, .string nm, optV Es (-1), optV Es (-1)] = [.int .i64 k, .int .i64 kd, .string nm, .nilIface, .nilIface] by rw [optV_none])
          rw [unhide HW] at HS
          go_wp2_with (at_builtin; refine wpList_append_own _ rfl _ _ 69 rfl w1.heap.size 77 ie (.agg #[.int .i64 0, .int .i64 0, .string ByteArray.empty, .nilIface, .nilIface]) 5 64 Tryz.underlying69 hie ez0 ez1 ez2 rfl (by decide) _ _ _ rfl (World.ownsRow.alloc Q2 _) ⟨wr.heap.size + 2, 0, none⟩ 1 1 [.int .i64 k, .int .i64 kd, .string nm, .nilIface, .nilIface] rfl rfl ?d1 ?d2 ?d3 ?d4 ?d5 ?_)
          case d1 => exact five_cell _ _ _ _ _ _ _ _ (by simp)
          case d2 => intro u hu; simp at hu; rcases hu with rfl | rfl | rfl | rfl <;> rfl
          case d3 => unfold maxLen; omega
          case d4 => omega
          case d5 => simp; omega
          intro v' w4 Q5 hgrow _
          have D5 := (D2.alloc D2.size (.cells #[.int .i64 k, .int .i64 kd, .string nm, .nilIface, .nilIface] 77)).grown hgrow (by simp; omega) (fun q hq => (Q2.lt q hq).1)
          clear hgrow
          go_wp2_with fail
          go_roundw
          case rel => exact ⟨k + 1, unhide Hlt, by go_num, by rw [unhide HS]; exact Q5, D5⟩
          case measure => have := unhide Hlt; simp [intOf]; omega
        · obtain ⟨qg, rfl⟩ : ∃ qg : Nat, gr = (qg : Int) := ⟨gr.toNat, by omega⟩
          have HG1 := hide (optV_some (Es := Es) (k := (qg : Int)) (by omega) (by omega))
          obtain ⟨bqg, oqg, haqg, lqg, gqg, iqg⟩ := T2.get (k := qg) (List.getElem?_eq_getElem (by omega))
          simp only [Int.toNat_natCast] at HG1
          obtain ⟨tg, ug, fqg⟩ := (Es[qg]'(by omega)).form
          rw [fqg] at HG1 gqg
          have nqg : ((qg : Int) == -1) = false := beq_eq_false_iff_ne.2 (by omega)
          have mqg : ((qg : Int) != -1) = true := bne_iff_ne.2 (by omega)
          have jqg : (qg : Int) < (Es.length : Int) := by omega
          subst haqg
          have Q2 := (Q1.alloc (.cells #[.int .i64 kd, .string nm, .int .i64 (-1), .int .i64 qg] 49)).alloc (.cells #[.int .i64 k, .int .i64 kd, .string nm, .nilIface, .iface tg ug] 77)
          have D2 := (D1.alloc D1.size (.cells #[.int .i64 kd, .string nm, .int .i64 (-1), .int .i64 qg] 49)).alloc (by simp; omega) (.cells #[.int .i64 k, .int .i64 kd, .string nm, .nilIface, .iface tg ug] 77)
          have HW := hide (show [Value.int .i64 k, .int .i64 kd, .string nm, optV Es (-1), optV Es qg] = [.int .i64 k, .int .i64 kd, .string nm, .nilIface, .iface tg ug] by rw [unhide HG1, optV_none])
          rw [unhide HW] at HS
          go_wp2_with (at_builtin; refine wpList_append_own _ rfl _ _ 69 rfl w1.heap.size 77 ie (.agg #[.int .i64 0, .int .i64 0, .string ByteArray.empty, .nilIface, .nilIface]) 5 64 Tryz.underlying69 hie ez0 ez1 ez2 rfl (by decide) _ _ _ rfl (World.ownsRow.alloc Q2 _) ⟨wr.heap.size + 2, 0, none⟩ 1 1 [.int .i64 k, .int .i64 kd, .string nm, .nilIface, .iface tg ug] rfl rfl ?d1 ?d2 ?d3 ?d4 ?d5 ?_)
          case d1 => exact five_cell _ _ _ _ _ _ _ _ (by simp)
          case d2 => intro u hu; simp at hu; rcases hu with rfl | rfl | rfl | rfl | rfl <;> rfl
          case d3 => unfold maxLen; omega
          case d4 => omega
          case d5 => simp; omega
          intro v' w4 Q5 hgrow _
          have D5 := (D2.alloc D2.size (.cells #[.int .i64 k, .int .i64 kd, .string nm, .nilIface, .iface tg ug] 77)).grown hgrow (by simp; omega) (fun q hq => (Q2.lt q hq).1)
          clear hgrow
          go_wp2_with fail
          go_roundw
          case rel => exact ⟨k + 1, unhide Hlt, by go_num, by rw [unhide HS]; exact Q5, D5⟩
          case measure => have := unhide Hlt; simp [intOf]; omega
      · obtain ⟨qc, rfl⟩ : ∃ qc : Nat, cd = (qc : Int) := ⟨cd.toNat, by omega⟩
        have HC1 := hide (optV_some (Es := Es) (k := (qc : Int)) (by omega) (by omega))
        obtain ⟨bqc, oqc, haqc, lqc, gqc, iqc⟩ := T2.get (k := qc) (List.getElem?_eq_getElem (by omega))
        simp only [Int.toNat_natCast] at HC1
        obtain ⟨tc, uc, fqc⟩ := (Es[qc]'(by omega)).form
        rw [fqc] at HC1 gqc
        have nqc : ((qc : Int) == -1) = false := beq_eq_false_iff_ne.2 (by omega)
        have mqc : ((qc : Int) != -1) = true := bne_iff_ne.2 (by omega)
        have jqc : (qc : Int) < (Es.length : Int) := by omega
        rcases hr2 with rfl | hr2
        · subst haqc
          have Q2 := (Q1.alloc (.cells #[.int .i64 kd, .string nm, .int .i64 qc, .int .i64 (-1)] 49)).alloc (.cells #[.int .i64 k, .int .i64 kd, .string nm, .iface tc uc, .nilIface] 77)
          have D2 := (D1.alloc D1.size (.cells #[.int .i64 kd, .string nm, .int .i64 qc, .int .i64 (-1)] 49)).alloc (by simp; omega) (.cells #[.int .i64 k, .int .i64 kd, .string nm, .iface tc uc, .nilIface] 77)
          have HW := hide (show [Value.int .i64 k, .int .i64 kd, .string nm, optV Es qc, optV Es (-1)] = [.int .i64 k, .int .i64 kd, .string nm, .iface tc uc, .nilIface] by rw [unhide HC1, optV_none])
          rw [unhide HW] at HS
          go_wp2_with (at_builtin; refine wpList_append_own _ rfl _ _ 69 rfl w1.heap.size 77 ie (.agg #[.int .i64 0, .int .i64 0, .string ByteArray.empty, .nilIface, .nilIface]) 5 64 Tryz.underlying69 hie ez0 ez1 ez2 rfl (by decide) _ _ _ rfl (World.ownsRow.alloc Q2 _) ⟨wr.heap.size + 2, 0, none⟩ 1 1 [.int .i64 k, .int .i64 kd, .string nm, .iface tc uc, .nilIface] rfl rfl ?d1 ?d2 ?d3 ?d4 ?d5 ?_)
          case d1 => exact five_cell _ _ _ _ _ _ _ _ (by simp)
          case d2 => intro u hu; simp at hu; rcases hu with rfl | rfl | rfl | rfl | rfl <;> rfl
          case d3 => unfold maxLen; omega
          case d4 => omega
          case d5 => simp; omega
          intro v' w4 Q5 hgrow _
          have D5 := (D2.alloc D2.size (.cells #[.int .i64 k, .int .i64 kd, .string nm, .iface tc uc, .nilIface] 77)).grown hgrow (by simp; omega) (fun q hq => (Q2.lt q hq).1)
          clear hgrow
          go_wp2_with fail
          go_roundw
          case rel => exact ⟨k + 1, unhide Hlt, by go_num, by rw [unhide HS]; exact Q5, D5⟩
          case measure => have := unhide Hlt; simp [intOf]; omega
        · obtain ⟨qg, rfl⟩ : ∃ qg : Nat, gr = (qg : Int) := ⟨gr.toNat, by omega⟩
          have HG1 := hide (optV_some (Es := Es) (k := (qg : Int)) (by omega) (by omega))
          obtain ⟨bqg, oqg, haqg, lqg, gqg, iqg⟩ := T2.get (k := qg) (List.getElem?_eq_getElem (by omega))
          simp only [Int.toNat_natCast] at HG1
          obtain ⟨tg, ug, fqg⟩ := (Es[qg]'(by omega)).form
          rw [fqg] at HG1 gqg
          have nqg : ((qg : Int) == -1) = false := beq_eq_false_iff_ne.2 (by omega)
          have mqg : ((qg : Int) != -1) = true := bne_iff_ne.2 (by omega)
          have jqg : (qg : Int) < (Es.length : Int) := by omega
          subst haqc
          obtain ⟨rfl, rfl⟩ : bqc = bqg ∧ oqc = oqg := by simpa using haqg
          clear haqg
          have Q2 := (Q1.alloc (.cells #[.int .i64 kd, .string nm, .int .i64 qc, .int .i64 qg] 49)).alloc (.cells #[.int .i64 k, .int .i64 kd, .string nm, .iface tc uc, .iface tg ug] 77)
          have D2 := (D1.alloc D1.size (.cells #[.int .i64 kd, .string nm, .int .i64 qc, .int .i64 qg] 49)).alloc (by simp; omega) (.cells #[.int .i64 k, .int .i64 kd, .string nm, .iface tc uc, .iface tg ug] 77)
          have HW := hide (show [Value.int .i64 k, .int .i64 kd, .string nm, optV Es qc, optV Es qg] = [.int .i64 k, .int .i64 kd, .string nm, .iface tc uc, .iface tg ug] by rw [unhide HC1, unhide HG1])
          rw [unhide HW] at HS
          go_wp2_with (at_builtin; refine wpList_append_own _ rfl _ _ 69 rfl w1.heap.size 77 ie (.agg #[.int .i64 0, .int .i64 0, .string ByteArray.empty, .nilIface, .nilIface]) 5 64 Tryz.underlying69 hie ez0 ez1 ez2 rfl (by decide) _ _ _ rfl (World.ownsRow.alloc Q2 _) ⟨wr.heap.size + 2, 0, none⟩ 1 1 [.int .i64 k, .int .i64 kd, .string nm, .iface tc uc, .iface tg ug] rfl rfl ?d1 ?d2 ?d3 ?d4 ?d5 ?_)
          case d1 => exact five_cell _ _ _ _ _ _ _ _ (by simp)
          case d2 => intro u hu; simp at hu; rcases hu with rfl | rfl | rfl | rfl | rfl <;> rfl
          case d3 => unfold maxLen; omega
          case d4 => omega
          case d5 => simp; omega
          intro v' w4 Q5 hgrow _
          have D5 := (D2.alloc D2.size (.cells #[.int .i64 k, .int .i64 kd, .string nm, .iface tc uc, .iface tg ug] 77)).grown hgrow (by simp; omega) (fun q hq => (Q2.lt q hq).1)
          clear hgrow
          go_wp2_with fail
          go_roundw
          case rel => exact ⟨k + 1, unhide Hlt, by go_num, by rw [unhide HS]; exact Q5, D5⟩
          case measure => have := unhide Hlt; simp [intOf]; omega
    · have e : k = m := by omega
      subst e
      rw [show L.take k = L by rw [← unhide HL, List.take_length]] at Q1
      obtain ⟨xv, kv, rfl, _⟩ := owns_form2 Q1
      go_wp2_with fail
      go_ret
      exact ⟨⟨_, Es, rfl, rfl, O1.tree, O1.fit, ownsRow_low Q1 z1⟩, B1.trans (D1.mono B1.size)⟩

end Go.Proofs.YtpbopjgmiaoomaaGreatDoor

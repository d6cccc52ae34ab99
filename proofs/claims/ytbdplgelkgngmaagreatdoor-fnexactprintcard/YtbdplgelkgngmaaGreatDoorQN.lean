/-
  The program's Print. Own work.
-/
import Derived.Test.YtbdplgelkgngmaaGreatDoorQM
import Derived.Test.YtbdplgelkgngmaaGreatDoorMHE
namespace Go.Proofs.YtbdplgelkgngmaaGreatDoor
open Go.RowKit
set_option linter.unusedVariables false

/-- the text of a policy -/
def IsTxt (N : List Nd) (L : List St) (s : ByteArray) : Prop :=
  (wellI N L = false ∧ s = ⟨#[]⟩) ∨ (wellI N L = true ∧ ∃ Es : List Ex, Es.length = N.length ∧ (∀ j, (h : j < Es.length) → IsT N j Es[j]) ∧ s = prT Es L)

theorem pr_fresh (w : World) : Pr w.heap.size w.heap.size ⟨#[]⟩ (w.alloc (.cells #[.pointer none, .slice none 0 0] 48)) := by
  exact Or.inl ⟨Nat.le_refl _, .slice none 0 0, (Row.new w #[.pointer none, .slice none 0 0] 48).out, World.ownsRow_nil _ _ _ _, by simp [Value.ownBlock]⟩

/-- a statement of any kind -/
theorem statement_any (B b : Nat) (w0 : World) (hT0 : TabOK w0) (hP0 : Pow w0) (hB : w0.heap.size ≤ B) (Es : List Ex) (j : Nat) (s : St) (hs : stOK w0 Es s) (acc : ByteArray) (w : World) (hw : Below B w0 w) (h : Pr B b acc w) (hz : acc.size ≤ 30000000000) :
    Calls Tryz.prog 17 #[.pointer (some ⟨b, 0, none⟩), .agg #[.int .i64 j, .int .i64 s.kind, .string s.name, optV Es s.cond, optV Es s.grant]] w (Wrote B b (acc ++ stT Es s) w) := by
  have full : ∀ e : Ex, e.fit w0 → FullV B b w0 e.val e.put e.cnt := expression_any B b w0 hT0 hP0 hB
  have dec : ∀ g, (g = -1 ∨ isR w0 Es g) → ∃ v, v = optV Es g ∧ (v = .nilIface ∨ ∃ t u, v = .iface t u) ∧ DecV B b w0 v (grT Es g) := fun g hg => by
    rcases hg with rfl | ⟨m, e, rfl, h1, h2, h3⟩
    · exact ⟨_, rfl, .inl rfl, decision_none B b w0⟩
    · obtain ⟨t, u, hv⟩ := e.form
      refine ⟨.iface t u, by rw [optV_at h1, hv], .inr ⟨t, u, rfl⟩, ?_⟩
      have := decision_some B b w0 t u e.put e.cnt (hv ▸ full e h2) h3
      rw [put_zero] at this
      rw [grT, if_neg (by omega), exT_at h1]
      exact this
  rcases hs with ⟨k1, k2, ⟨m, e, hm, h1, h2, h3⟩, k4⟩ | ⟨k1, ⟨m, e, hm, h1, h2, h3⟩, k3⟩ | ⟨k1, k2, k3⟩
  · obtain ⟨t, u, hv⟩ := e.form
    rw [stT, if_pos k1, k1, k4, hm, optV_at h1, exT_at h1, hv, optV_none]
    have := statement_let B b w0 j s.name t u e.put e.cnt (hv ▸ full e h2) h3 (e.put_size h2 0) k2 acc w hw h hz
    rw [put_zero] at this
    exact this
  · obtain ⟨t, u, hv⟩ := e.form
    have hg := grT_size k3
    obtain ⟨v, hv2, hv3, hD⟩ := dec _ k3
    rw [stT, if_neg (by omega), if_pos k1, k1, hm, optV_at h1, exT_at h1, hv, ← hv2]
    rcases hv3 with rfl | ⟨t2, u2, rfl⟩
    · have := statement_when0 B b w0 j s.name t u e.put e.cnt (hv ▸ full e h2) h3 (e.put_size h2 0) (grT Es s.grant) hD hg acc w hw h hz
      rw [put_zero] at this
      exact this
    · have := statement_when1 B b w0 j s.name t u e.put e.cnt (hv ▸ full e h2) h3 (e.put_size h2 0) t2 u2 (grT Es s.grant) hD hg acc w hw h hz
      rw [put_zero] at this
      exact this
  · have hg := grT_size k3
    obtain ⟨v, hv2, hv3, hD⟩ := dec _ k3
    rw [stT, if_neg (by omega), if_neg (by omega), k1, k2, optV_none, ← hv2]
    rcases hv3 with rfl | ⟨t2, u2, rfl⟩
    · exact statement_else0 B b w0 j s.name (grT Es s.grant) hD hg acc w hw h hz
    · exact statement_else1 B b w0 j s.name t2 u2 (grT Es s.grant) hD hg acc w hw h hz

theorem optV_form (Es : List Ex) (k : Int) : optV Es k = .nilIface ∨ ∃ t u, optV Es k = .iface t u := by
  rw [optV]
  split
  · exact .inl rfl
  · split
    · exact .inr (Ex.form _)
    · exact .inl rfl

set_option maxHeartbeats 1600000 in
set_option maxRecDepth 100000 in
theorem iPrint_any (a b : Option Addr) (n c m d : Nat) (N : List Nd) (L : List St) (w : World) (h1 : Nds w a n c N) (h2 : Sts w b m d L) (hT : TabOK w) (hP : Pow w) (hnum : ∀ x ∈ N, x.num ≤ 9223372036854775807) :
    Calls Tryz.prog 7 #[.agg #[.slice a n c, .slice b m d]] w fun r w' => (∃ s, r = .returned (.string s) ∧ IsTxt N L s) ∧ Below w.heap.size w w' := by
  have HN := hide h1.len
  have HL := hide h2.len
  have HU := hide hnum
  have R0 := Row.new w #[.slice a n c, .slice b m d] 31
  have B0 := (Below.refl w.heap.size w).alloc (Nat.le_refl _) (.cells #[.slice a n c, .slice b m d] 31)
  have N0 := h1.below B0 (Nat.le_refl _)
  have L0 := h2.below B0 (Nat.le_refl _)
  have T0 := hT.below B0 (Nat.le_refl _)
  have P0 := hP.below B0 (Nat.le_refl _)
  clear h1 h2 hT hP hnum
  go_enter Tryz.func7, Tryz.ntmps7
  go_wp2_with fail
  refine (iValidPolicy_any _ _ _ _ _ _ N L _ N0 L0 T0).mono ?_
  rintro r w1 ⟨rfl, hb1⟩
  have B1 := B0.trans (hb1.mono B0.size)
  have N1 := N0.below hb1 (Nat.le_refl _)
  have L1 := L0.below hb1 (Nat.le_refl _)
  have T1 := T0.below hb1 (Nat.le_refl _)
  have P1 := P0.below hb1 (Nat.le_refl _)
  have R1 := R0.after hb1 (Nat.le_refl _)
  clear N0 L0 T0 P0 R0 B0 hb1
  have z1 := B1.size
  have z1' : w.heap.size < w1.heap.size := R1.lt
  dsimp only
  cases hw : wellI N L with
  | false =>
    have HW := hide hw
    clear hw
    go_wp2_with fail
    go_ret
    exact ⟨⟨_, rfl, .inl ⟨unhide HW, rfl⟩⟩, B1⟩
  | true =>
    have HW := hide hw
    have HP := hide (wellP_of hw)
    clear hw
    have A1 := (Below.refl w1.heap.size w1).alloc (Nat.le_refl _) (.cells #[.pointer none, .slice none 0 0] 48)
    have F1 := pr_fresh w1
    have R2 := R1.after A1 (Nat.le_refl _)
    have q0 : (w1.alloc (.cells #[.pointer none, .slice none 0 0] 48)).cell? ⟨w.heap.size, 0, none⟩ = some (.slice a n c) := R2.cell 0
    have q1 : (w1.alloc (.cells #[.pointer none, .slice none 0 0] 48)).cell? ⟨w.heap.size, 1, none⟩ = some (.slice b m d) := R2.cell 1
    have HC := hide (statementsOf_any a b n c m d N L w1 _ N1 A1 (L1.below A1 (Nat.le_refl _)) (unhide HP).fields (unhide HU) (unhide HP).kids (by rw [← unhide HN]; exact (unhide HP).roots))
    go_wp2_with fail
    refine (unhide HC).mono ?_
    rintro r w3 ⟨⟨v, Es, rfl, hEl, hE, hf, O3⟩, hb3⟩
    have z2 : (w1.alloc (.cells #[.pointer none, .slice none 0 0] 48)).heap.size = w1.heap.size + 1 := by simp
    have F3 : Pr w1.heap.size w1.heap.size ⟨#[]⟩ w3 := F1.below hb3
    have B3 : Below w1.heap.size w1 w3 := A1.trans (hb3.mono A1.size)
    have HS := hide (stOK_of (unhide HP) (by rw [hEl, unhide HN]) hE hf)
    have HE := hide hE
    have Hl := hide (show Es.length = N.length by rw [hEl, unhide HN])
    have Hm := hide (show 1 ≤ m ∧ m ≤ 600 by rw [← unhide HL]; exact ⟨(unhide HP).m0, (unhide HP).m⟩)
    rw [z2] at O3
    obtain ⟨xv, kv, rfl, hx⟩ := owns_form2 O3
    obtain ⟨g, rfl, hg, hgc⟩ := hx (by have := unhide Hm; omega)
    obtain ⟨cur, R3, _⟩ := row_of_owns O3
    have HG := hide hgc
    have hne : g ≠ w1.heap.size := by omega
    have hms : m ≤ 600 := (unhide Hm).2
    clear hEl hE hf hx hgc HC O3 hb3 F1 q0 q1 R2 A1 L1 N1
    dsimp only
    go_wp2_with fail
    go_loopw [12] (fun i wr => ∃ k : Nat, k ≤ m ∧ i = .int .i64 k ∧ Pr w1.heap.size w1.heap.size (prT Es (L.take k)) wr ∧ Kp w1.heap.size w1.heap.size w3 wr) (fun i _ => m - (intOf i).toNat)
    case atStart => exact ⟨0, by omega, rfl, F3, Kp.refl _ _ _⟩
    case round =>
      obtain ⟨k, hk, rfl, F4, K4⟩ := hrel
      by_cases hlt : k < m
      · have ilt : (k : Int) < (m : Int) := by omega
        have hkl : k < L.length := by rw [unhide HL]; exact hlt
        have R4 := K4.row R3 hne (by decide)
        have at5 : ∀ r, r < 5 → ∀ u, (stmV Es k L[k])[r]? = some u → wr.cell? ⟨g, k * 5 + r, none⟩ = some u := fun r hr u hu => by
          rw [R4.cell, ← R3.cell]
          refine unhide HG _ _ ?_
          rw [stC_at Es L 0 k hkl r hr, Nat.zero_add]
          exact hu
        have c0 := at5 0 (by decide) _ rfl
        have c1 := at5 1 (by decide) _ rfl
        have c2 := at5 2 (by decide) _ rfl
        have c3 := at5 3 (by decide) _ rfl
        have c4 := at5 4 (by decide) _ rfl
        simp only [Nat.add_zero] at c0
        have zk := K4.size
        have z3 := B3.size
        have HZ := hide (show (prT Es (L.take k)).size ≤ 30000000000 by
          have h1 := prT_size (w := w1) (Es := Es) (L := L.take k) (fun s hs => unhide HS s (List.mem_of_mem_take hs))
          have h2 := unhide Hm
          rw [List.length_take] at h1
          omega)
        have HLE := hide (Nat.le_trans z3 zk)
        have HT := hide (prT_snoc Es L k hkl)
        have HX := hide (fun W (hW : Below w1.heap.size w1 W) (hF : Pr w1.heap.size w1.heap.size (prT Es (L.take k)) W) => statement_any w1.heap.size w1.heap.size w1 T1 P1 (Nat.le_refl _) Es k L[k] (unhide HS _ (List.getElem_mem hkl)) _ W hW hF (unhide HZ))
        have Hlt := hide hlt
        have gl := R4.lt
        generalize prT Es (L.take k) = acc at F4 HT HX HZ
        generalize L[k] = s at c0 c1 c2 c3 c4 HT HX at5
        generalize stT Es s = st at HT HX
        clear at5 R4 hlt hkl
        have v3 := optV_form Es s.cond
        have v4 := optV_form Es s.grant
        generalize optV Es s.cond = o3 at c3 HX v3
        generalize optV Es s.grant = o4 at c4 HX v4
        generalize s.kind = kd at c1 HX
        generalize s.name = nm at c2 HX
        rcases v3 with rfl | ⟨t3, u3, rfl⟩ <;> rcases v4 with rfl | ⟨t4, u4, rfl⟩
        all_goals
          go_wp2_with fail
          refine (unhide HX _ ?_ (F4.alloc _)).mono ?_
          · exact (B3.trans K4.low).alloc (unhide HLE) _
          rintro r w5 ⟨rfl, F5, K5⟩
          dsimp only
          go_wp2_with fail
          go_roundw
          case rel => exact ⟨k + 1, unhide Hlt, by go_num, by rw [unhide HT]; exact F5, (K4.trans (Kp.alloc0 wr _ (unhide HLE))).trans K5⟩
          case measure => have := unhide Hlt; simp [intOf]; omega
      · have e : k = m := by omega
        subst e
        have HV := hide (show prT Es (L.take k) = prT Es L by rw [← unhide HL, List.take_length])
        have HZ := hide (show (prT Es L).size ≠ 0 from prT_pos (w := w1) (by rw [unhide HL]; exact (unhide Hm).1) (unhide HS))
        rw [unhide HV] at F4
        go_wp2_with fail
        refine (string_any _ _ _ _ F4 (unhide HZ)).mono ?_
        rintro r w6 ⟨rfl, hb6⟩
        dsimp only
        go_wp2_with fail
        go_ret
        exact ⟨⟨_, rfl, .inr ⟨unhide HW, Es, unhide Hl, unhide HE, rfl⟩⟩, B1.trans (((B3.trans K4.low).trans hb6).mono z1)⟩

end Go.Proofs.YtbdplgelkgngmaaGreatDoor

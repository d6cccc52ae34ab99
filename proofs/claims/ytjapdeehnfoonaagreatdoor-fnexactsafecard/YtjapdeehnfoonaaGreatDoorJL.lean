/-
  The checker over all statements. Own work.
-/
import Derived.Test.YtjapdeehnfoonaaGreatDoorJK
namespace Go.Proofs.YtjapdeehnfoonaaGreatDoor
open Go.RowKit
set_option linter.unusedVariables false

theorem cntL_room (Es : List Ex) (L : List St) (k : Nat) (h : k < L.length) : cntL Es (L.take k) + (cntP Es L[k].cond + cntP Es L[k].grant) ≤ cntL Es L := by
  have e : L = L.take k ++ (L[k] :: L.drop (k + 1)) := by rw [List.getElem_cons_drop, List.take_append_drop]
  have e2 := congrArg (cntL Es) e
  simp only [cntL, List.map_append, List.map_cons, List.sum_append, List.sum_cons] at e2 ⊢
  omega

theorem cntP_at {Es : List Ex} {k : Int} {m : Nat} {e : Ex} (h : k = (m : Nat)) (he : Es[m]? = some e) : cntP Es k = e.cnt := by
  rw [cntP, if_neg (by omega), h, Int.toNat_natCast, he]

theorem Kd.row {B cb mb : Nat} {lv tv lv' tv' : Value} {w w' : World} (h : Kd B cb mb lv tv w lv' tv' w') {g : Nat} {cs : Array Value} {t : TypeId} (R : Row w g cs t) (h1 : g ≠ cb) (h2 : g ≠ mb) (h3 : lv.ownBlock ≠ some g) (h4 : tv.ownBlock ≠ some g) : Row w' g cs t ∧ lv'.ownBlock ≠ some g ∧ tv'.ownBlock ≠ some g := by
  refine ⟨⟨(h.keep g R.lt h1 h2 (fun e => h3 e.symm) (fun e => h4 e.symm)).trans R.out⟩, fun e => ?_, fun e => ?_⟩
  · rcases h.newl g e with e2 | e2
    · exact h3 e2
    · have := R.lt; omega
  · rcases h.newt g e with e2 | e2
    · exact h4 e2
    · have := R.lt; omega

set_option maxHeartbeats 3200000 in
set_option maxRecDepth 100000 in
theorem statements_any (B cb mb : Nat) (st : CkS) (lv tv : Value) (w0 : World) (aT aN aA : Addr) (hV : Vok w0 aT) (hE : Eok w0 aN aA) (hB : w0.heap.size ≤ B) (Es : List Ex) (L : List St) (m g kv : Nat) (cur : Array Value) (w : World)
    (hm : L.length = m) (hts : ∀ t ∈ st.2.1, 1 ≤ t ∧ t ≤ 4) (hl : st.2.1.length + m ≤ 1000) (hok : ∀ s ∈ L, okP Es s.cond ∧ okP Es s.grant) (hcn : st.2.2.length + cntL Es L ≤ 4000)
    (hw : Below B w0 w) (h : Cm B cb mb st.1 st.2.1 st.2.2 lv tv w) (R : Row w g cur 119) (hcur : ∀ (r : Nat) (u : Value), (stC Es 0 L)[r]? = some u → cur[r]? = some u) (g1 : g ≠ cb) (g2 : g ≠ mb) (g3 : lv.ownBlock ≠ some g) (g4 : tv.ownBlock ≠ some g) :
    Calls Tryz.prog 34 #[.pointer (some ⟨cb, 0, none⟩), .slice (some ⟨g, 0, none⟩) m kv] w (GoAns B cb mb lv tv (ckAll Es st L) w) := by
  have HM := hide hm
  have HOK := hide hok
  have HCU := hide hcur
  have HCN := hide hcn
  have HTS := hide hts
  have HLL := hide hl
  have Hw := hide hw
  have hms : m ≤ 1000 := by omega
  clear hm hok hcur hcn hts hl hw
  have hBw : B ≤ w.heap.size := by have := h.C.low; have := h.C.row.lt; omega
  go_enter Tryz.func34, Tryz.ntmps34
  go_wp2_with fail
  go_loopw [11] (fun i wr => ∃ (k : Nat) (st1 : CkS) (lv1 tv1 : Value), k ≤ m ∧ i = .int .i64 k ∧ Hid (ckAll Es st (L.take k) = some st1) ∧ Cm B cb mb st1.1 st1.2.1 st1.2.2 lv1 tv1 wr ∧ Kd B cb mb lv tv w lv1 tv1 wr) (fun i _ => m - (intOf i).toNat)
  case atStart => exact ⟨0, st, lv, tv, by omega, rfl, hide rfl, h, Kd.refl _ _ _ _ _ _⟩
  case round =>
    obtain ⟨k, st1, lv1, tv1, hk, rfl, HA, H1, K1⟩ := hrel
    by_cases hlt : k < m
    · have ilt : (k : Int) < (m : Int) := by omega
      have hkl : k < L.length := by rw [unhide HM]; exact hlt
      obtain ⟨R1, q3, q4⟩ := K1.row R g1 g2 g3 g4
      have at5 : ∀ r, r < 5 → ∀ u, (stmV Es k L[k])[r]? = some u → wr.cell? ⟨g, k * 5 + r, none⟩ = some u := fun r hr u hu => by
        rw [R1.cell]
        refine unhide HCU _ _ ?_
        rw [stC_at Es L 0 k hkl r hr, Nat.zero_add]
        exact hu
      have c0 := at5 0 (by decide) _ rfl
      have c1 := at5 1 (by decide) _ rfl
      have c2 := at5 2 (by decide) _ rfl
      have c3 := at5 3 (by decide) _ rfl
      have c4 := at5 4 (by decide) _ rfl
      simp only [Nat.add_zero] at c0
      obtain ⟨l1, l2, l3⟩ := ckAll_len (unhide HA)
      have room := cntL_room Es L k hkl
      have hin := l3 (unhide HTS)
      have hcnt := unhide HCN
      have hll := unhide HLL
      have hl1 : st1.2.1.length ≤ 999 := by rw [List.length_take] at l2; omega
      obtain ⟨ok1, ok2⟩ := unhide HOK L[k] (List.getElem_mem hkl)
      have HS := hide (show ∀ st2, ckStep Es st1 L[k] = some st2 → ckAll Es st (L.take (k + 1)) = some st2 from fun st2 e => by rw [List.take_succ_eq_append_getElem hkl, ckAll_snoc, unhide HA]; exact e)
      have HF := hide (show ckStep Es st1 L[k] = none → ckAll Es st L = none from fun e => ckAll_none Es L st (k + 1) (by rw [List.take_succ_eq_append_getElem hkl, ckAll_snoc, unhide HA]; exact e))
      have Hlt := hide hlt
      have gl := R1.lt
      have D1 := K1.low
      have hBr : B ≤ wr.heap.size := Nat.le_trans hBw D1.size
      have wcb : wr.heap.size ≠ cb := by have := H1.C.row.lt; omega
      have wmb : wr.heap.size ≠ mb := by have := H1.M.lt; omega
      have wlv : lv1.ownBlock ≠ some wr.heap.size := fun e => by have := (H1.C.lets.lt _ e).2; omega
      have wtv : tv1.ownBlock ≠ some wr.heap.size := fun e => by have := (H1.C.types.lt _ e).2; omega
      have HC := hide (fun W hW hCm => condition_any B cb mb st1 lv1 tv1 w0 aT aN aA hV hE hB hin (by omega) Es k L[k] ok1 W hW hCm (fun mm e e1 e2 => by have := cntP_at e1 e2; omega))
      have HG := hide (fun (st2 : CkS) (h2 : ckCond Es st1 L[k] = some st2) lv2 tv2 W hW hCm => grant_any B cb mb st2 lv2 tv2 w0 aT aN aA hV hE hB ((ckCond_len h2).2.2 hin) (by have := (ckCond_len h2).2.1; omega) Es k L[k] ok2 W hW hCm (fun mm e e1 e2 => by have := cntP_at e1 e2; have := (ckCond_len h2).1; omega))
      clear at5 R1 hlt ok1 ok2 room l1 l2 l3 hin hcnt hll hl1
      have HZ := hide (show ckStep Es st1 L[k] = (ckCond Es st1 L[k]).bind fun s1 => ckGrant Es s1 L[k] from rfl)
      generalize L[k] = s at c0 c1 c2 c3 c4 HS HF HC HG HZ
      clear hkl
      have v3 := formV_opt Es s.cond
      have v4 := formV_opt Es s.grant
      generalize ckStep Es st1 s = oo at HS HF HZ
      generalize ckCond Es st1 s = oc at HC HG HZ
      generalize ckGrant Es = og at HG HZ
      generalize optV Es s.cond = o3 at c3 HC HG v3
      generalize optV Es s.grant = o4 at c4 HC HG v4
      generalize s.kind = kd at c1 HC HG
      generalize s.name = nm at c2 HC HG
      rcases v3 with rfl | ⟨t3, u3, rfl⟩ <;> rcases v4 with rfl | ⟨t4, u4, rfl⟩
      all_goals
        go_wp2_with fail
        refine (unhide HC _ ?_ (H1.below ((Below.refl _ _).alloc (Nat.le_refl _) _))).mono ?_
        · exact ((unhide Hw).trans D1).alloc hBr _
        rintro r w2 (⟨ns2, ts2, tt2, lv2, tv2, hoc, rfl, H2, K2⟩ | ⟨hoc, ⟨te, ue, rfl⟩, hb2⟩)
        · have HOC := hide hoc
          obtain ⟨R2, _, _⟩ := K2.row (Row.new wr _ _) wcb wmb wlv wtv
          obtain ⟨r0, r1, r2, r3, r4⟩ := row5 R2
          have KK := (K1.trans (Kd.of_all ((Below.refl _ _).alloc (Nat.le_refl _) _) hBr)).trans K2
          have D2 := (unhide Hw).trans KK.low
          have HGG := hide (unhide HG (ns2, ts2, tt2) hoc lv2 tv2 w2 D2 H2)
          clear hoc K2 R2
          dsimp only
          go_wp2_with fail
          refine (unhide HGG).mono ?_
          rintro r w3 (⟨ns3, ts3, tt3, lv3, tv3, hog, rfl, H3, K3⟩ | ⟨hog, ⟨te, ue, rfl⟩, hb3⟩)
          · have HX := hide (unhide HS (ns3, ts3, tt3) (by rw [unhide HZ, unhide HOC]; exact hog))
            clear hog
            dsimp only
            go_wp2_with fail
            go_roundw
            case rel => exact ⟨k + 1, (ns3, ts3, tt3), lv3, tv3, unhide Hlt, by go_num, HX, H3, KK.trans K3⟩
            case measure => have := unhide Hlt; simp [intOf]; omega
          · have HX := hide (unhide HF (by rw [unhide HZ, unhide HOC]; exact hog))
            clear hog
            dsimp only
            go_wp2_with fail
            go_ret
            exact .inr ⟨unhide HX, ⟨_, _, rfl⟩, KK.low.trans hb3⟩
        · have HX := hide (unhide HF (by rw [unhide HZ, hoc]; rfl))
          clear hoc
          dsimp only
          go_wp2_with fail
          go_ret
          exact .inr ⟨unhide HX, ⟨_, _, rfl⟩, (D1.alloc hBr _).trans hb2⟩
    · have e : k = m := by omega
      subst e
      have HX := hide (show ckAll Es st L = some st1 by rw [← unhide HA, ← unhide HM, List.take_length])
      go_wp2_with fail
      go_ret
      exact .inl ⟨_, _, _, _, _, unhide HX, rfl, H1, K1⟩

end Go.Proofs.YtjapdeehnfoonaaGreatDoor

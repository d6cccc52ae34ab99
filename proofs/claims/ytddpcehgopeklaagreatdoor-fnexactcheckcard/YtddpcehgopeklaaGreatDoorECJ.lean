/-
  The checker over all statements, with the exact error (written by mkeci.py). Own work.
-/
import Derived.Test.YtddpcehgopeklaaGreatDoorECI
import Derived.Test.YtddpcehgopeklaaGreatDoorMXBJ
namespace Go.Proofs.YtddpcehgopeklaaGreatDoor
open Go.RowKit
set_option linter.unusedVariables false

set_option maxHeartbeats 3200000 in
set_option maxRecDepth 100000 in
theorem statementsX_any (aT aN aA : Addr) (B cb mb : Nat) (st : Cs) (lv tv : Value) (w0 : World) (hV : Vok w0 aT) (hE : Eok w0 aN aA) (hB : w0.heap.size ≤ B) (L : List Sx) (m g kv : Nat) (cur : Array Value) (w : World)
    (hm : L.length = m) (hts : Wst st) (hl : st.2.1.length + m ≤ 1000) (hok : ∀ s ∈ L, okO s.cond ∧ okO s.grant) (hcn : st.2.2.length + cntX L ≤ 4000)
    (hw : Below B w0 w) (h : Cx B cb mb st.1 st.2.1 st.2.2 lv tv w) (R : Row w g cur 90) (hcur : ∀ (r : Nat) (u : Value), (sxC L)[r]? = some u → cur[r]? = some u) (g1 : g ≠ cb) (g2 : g ≠ mb) (g3 : lv.ownBlock ≠ some g) (g4 : tv.ownBlock ≠ some g) :
    Calls Tryz.prog 43 #[.pointer (some ⟨cb, 0, none⟩), .slice (some ⟨g, 0, none⟩) m kv] w (GoX aT aN aA B cb mb lv tv (allX st L) w) := by
  have HM := hide hm
  have HOK := hide hok
  have HCU := hide hcur
  have HCN := hide hcn
  have HTS := hide hts
  have HLL := hide hl
  have Hw := hide hw
  have hms : m ≤ 1000 := by omega
  clear hm hok hcur hcn hts hl hw
  have hBw : B ≤ w.heap.size := by have := h.C.low; have := h.C.row.lt; omega
  go_enter Tryz.func43, Tryz.ntmps43
  go_wp2_with fail
  go_loopw [11] (fun i wr => ∃ (k : Nat) (st1 : Cs) (lv1 tv1 : Value), k ≤ m ∧ i = .int .i64 k ∧ Hid (allX st (L.take k) = .ok st1) ∧ Cx B cb mb st1.1 st1.2.1 st1.2.2 lv1 tv1 wr ∧ Kd B cb mb lv tv w lv1 tv1 wr) (fun i _ => m - (intOf i).toNat)
  case atStart => exact ⟨0, st, lv, tv, by omega, rfl, hide rfl, h, Kd.refl _ _ _ _ _ _⟩
  case round =>
    obtain ⟨k, st1, lv1, tv1, hk, rfl, HA, H1, K1⟩ := hrel
    by_cases hlt : k < m
    · have ilt : (k : Int) < (m : Int) := by omega
      have hkl : k < L.length := by rw [unhide HM]; exact hlt
      obtain ⟨R1, q3, q4⟩ := K1.row R g1 g2 g3 g4
      have at5 : ∀ r, r < 5 → ∀ u, (sxV L[k])[r]? = some u → wr.cell? ⟨g, k * 5 + r, none⟩ = some u := fun r hr u hu => by
        rw [R1.cell]
        refine unhide HCU _ _ ?_
        rw [sxC_at L k hkl r hr]
        exact hu
      have c0 := at5 0 (by decide) _ rfl
      have c1 := at5 1 (by decide) _ rfl
      have c2 := at5 2 (by decide) _ rfl
      have c3 := at5 3 (by decide) _ rfl
      have c4 := at5 4 (by decide) _ rfl
      simp only [Nat.add_zero] at c0
      obtain ⟨l1, l2, l3⟩ := allX_len (unhide HA)
      have room := cntX_room L k hkl
      have hin := l3 (unhide HTS)
      have hcnt := unhide HCN
      have hll := unhide HLL
      have hl1 : st1.2.1.length ≤ 999 := by rw [List.length_take] at l2; omega
      obtain ⟨ok1, ok2⟩ := unhide HOK L[k] (List.getElem_mem hkl)
      have HS := hide (show ∀ st2, stepX st1 L[k] = .ok st2 → allX st (L.take (k + 1)) = .ok st2 from fun st2 e => by rw [List.take_succ_eq_append_getElem hkl, allX_snoc, unhide HA]; exact e)
      have HF := hide (show ∀ f, stepX st1 L[k] = .error f → allX st L = .error f from fun f e => allX_error L st (k + 1) (by rw [List.take_succ_eq_append_getElem hkl, allX_snoc, unhide HA]; exact e))
      have Hlt := hide hlt
      have gl := R1.lt
      have D1 := K1.low
      have hBr : B ≤ wr.heap.size := Nat.le_trans hBw D1.size
      have wcb : wr.heap.size ≠ cb := by have := H1.C.row.lt; omega
      have wmb : wr.heap.size ≠ mb := by have := H1.M.lt; omega
      have wlv : lv1.ownBlock ≠ some wr.heap.size := fun e => by have := (H1.C.lets.lt _ e).2; omega
      have wtv : tv1.ownBlock ≠ some wr.heap.size := fun e => by have := (H1.C.types.lt _ e).2; omega
      have HC := hide (fun W hW hCm => conditionX_any aT aN aA B cb mb st1 lv1 tv1 w0 hV hE hB hin (by omega) L[k] ok1 W hW hCm (by omega))
      have HG := hide (fun (st2 : Cs) (h2 : condX st1 L[k] = .ok st2) lv2 tv2 W hW hCm => grantX_any aT aN aA B cb mb st2 lv2 tv2 w0 hV hE hB ((condX_len h2).2.2 hin) (by have := (condX_len h2).2.1; omega) L[k] ok2 W hW hCm (by have := (condX_len h2).1; omega))
      clear at5 R1 hlt ok1 ok2 room l1 l2 l3 hin hcnt hll hl1
      have HZ := hide (show stepX st1 L[k] = (condX st1 L[k]).bind fun s1 => grantX s1 L[k] from rfl)
      generalize L[k] = s at c0 c1 c2 c3 c4 HS HF HC HG HZ
      clear hkl
      have v3 := formV_optX s.cond
      have v4 := formV_optX s.grant
      generalize stepX st1 s = oo at HS HF HZ
      generalize condX st1 s = oc at HC HG HZ
      generalize grantX = og at HG HZ
      generalize optX s.cond = o3 at c3 HC HG v3
      generalize optX s.grant = o4 at c4 HC HG v4
      generalize s.kind = kd at c1 HC HG
      generalize s.name = nm at c2 HC HG
      generalize s.at' = aj at c0 HC HG
      rcases v3 with rfl | ⟨t3, u3, rfl⟩ <;> rcases v4 with rfl | ⟨t4, u4, rfl⟩
      all_goals
        go_wp2_with fail
        refine (unhide HC _ ?_ (H1.below ((Below.refl _ _).alloc (Nat.le_refl _) _))).mono ?_
        · exact ((unhide Hw).trans D1).alloc hBr _
        rintro r w2 (⟨ns2, ts2, tt2, lv2, tv2, hoc, rfl, H2, K2⟩ | ⟨fe, ge, hoc, rfl, hee, hb2⟩)
        · have HOC := hide hoc
          obtain ⟨R2, _, _⟩ := K2.row (Row.new wr _ _) wcb wmb wlv wtv
          obtain ⟨r0, r1, r2, r3, r4⟩ := row5 R2
          have KK := (K1.trans (Kd.of_all ((Below.refl _ _).alloc (Nat.le_refl _) _) hBr)).trans K2
          have D2 := (unhide Hw).trans KK.low
          have HGG := hide (unhide HG (ns2, ts2, tt2) hoc lv2 tv2 w2 D2 H2)
          clear hoc K2 R2
          dsimp only
          go_wp2_with fail
          refine (unhide HGG).mono ?_
          rintro r w3 (⟨ns3, ts3, tt3, lv3, tv3, hog, rfl, H3, K3⟩ | ⟨fe, ge, hog, rfl, hee, hb3⟩)
          · have HX := hide (unhide HS (ns3, ts3, tt3) (by rw [unhide HZ, unhide HOC]; exact hog))
            clear hog
            dsimp only
            go_wp2_with fail
            go_roundw
            case rel => exact ⟨k + 1, (ns3, ts3, tt3), lv3, tv3, unhide Hlt, by go_num, HX, H3, KK.trans K3⟩
            case measure => have := unhide Hlt; simp [intOf]; omega
          · have HX := hide (unhide HF fe (by rw [unhide HZ, unhide HOC]; exact hog))
            clear hog
            dsimp only
            go_wp2_with fail
            go_ret
            exact .inr ⟨fe, ge, unhide HX, rfl, hee, KK.low.trans hb3⟩
        · have HX := hide (unhide HF fe (by rw [unhide HZ, hoc]; rfl))
          clear hoc
          dsimp only
          go_wp2_with fail
          go_ret
          exact .inr ⟨fe, ge, unhide HX, rfl, hee, (D1.alloc hBr _).trans hb2⟩
    · have e : k = m := by omega
      subst e
      have HX := hide (show allX st L = .ok st1 by rw [← unhide HA, ← unhide HM, List.take_length])
      go_wp2_with fail
      go_ret
      exact .inl ⟨_, _, _, _, _, unhide HX, rfl, H1, K1⟩

end Go.Proofs.YtddpcehgopeklaaGreatDoor

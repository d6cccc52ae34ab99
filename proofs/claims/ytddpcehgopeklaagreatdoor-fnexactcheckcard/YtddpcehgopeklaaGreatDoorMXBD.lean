/-
  ECH3, ECH4. Own work.
-/
import Derived.Test.YtddpcehgopeklaaGreatDoorMXAY
namespace Go.Proofs.YtddpcehgopeklaaGreatDoor
open Go.RowKit
set_option linter.unusedVariables false

set_option maxHeartbeats 1600000 in
set_option maxRecDepth 100000 in
theorem conditionX_let_bin (B cb mb : Nat) (D : List Dc) (ts tt : List Int) (lv tv : Value) (w0 : World) (aT aN aA : Addr) (hV : Vok w0 aT) (hE : Eok w0 aN aA) (hB : w0.heap.size ≤ B) (j : Int) (nm : ByteArray) (i op : Int) (t1 : TypeId) (u1 : Value) (t2 : TypeId) (u2 : Value) (gv : Value) (hg : formV gv) (ot : Rs) (ys : List Int) (V : Hid (TxV aT aN aA B cb ts mb D lv w0 (.iface 170 (.agg #[.int .i64 i, .int .i64 op, .iface t1 u1, .iface t2 u2])) ot ys)) (w : World) (hw : Below B w0 w) (h : Cx B cb mb D ts tt lv tv w) (hz : tt.length + ys.length ≤ 4000) (hl : ts.length ≤ 1000) :
    Calls Tryz.prog 66 #[.pointer (some ⟨cb, 0, none⟩), .agg #[.int .i64 j, .int .i64 1, .string nm, .iface 170 (.agg #[.int .i64 i, .int .i64 op, .iface t1 u1, .iface t2 u2]), gv]] w (GoX aT aN aA B cb mb lv tv (letX D ts tt nm i ot ys) w) := by
  have hBw : B ≤ w.heap.size := by have := h.C.low; have := h.C.row.lt; omega
  have hp := place_bin i op t1 u1 t2 u2
  have Hp := hide (place_of_bin i op t1 u1 t2 u2)
  have Hw := hide hw
  clear hw
  rcases hg with rfl | ⟨tg, ug, rfl⟩
  · have B0 := (Below.refl w.heap.size w).alloc (Nat.le_refl _) (.cells #[.int .i64 j, .int .i64 1, .string nm, .iface 170 (.agg #[.int .i64 i, .int .i64 op, .iface t1 u1, .iface t2 u2]), .nilIface] 90)
    have H0 := h.below B0
    have R0 := Row.new w #[.int .i64 j, .int .i64 1, .string nm, .iface 170 (.agg #[.int .i64 i, .int .i64 op, .iface t1 u1, .iface t2 u2]), .nilIface] 90
    have zw : (w.alloc (.cells #[.int .i64 j, .int .i64 1, .string nm, .iface 170 (.agg #[.int .i64 i, .int .i64 op, .iface t1 u1, .iface t2 u2]), .nilIface] 90)).heap.size = w.heap.size + 1 := by simp
    have gcb : w.heap.size ≠ cb := by have := h.C.row.lt; omega
    have gmb : w.heap.size ≠ mb := by have := h.M.lt; omega
    have gtv : tv.ownBlock ≠ some w.heap.size := fun e => by have := (h.C.types.lt _ e).2; omega
    go_enter Tryz.func66, Tryz.ntmps66
    go_wp2_with fail
    refine (unhide V tt tv _ ((unhide Hw).trans (B0.mono hBw)) H0.C H0.M hz).mono ?_
    rintro r w2 (⟨t, tv', rfl, rfl, C2, K2⟩ | ⟨fe, ge, rfl, rfl, hee, hb2⟩)
    · have H2 := H0.of_kt C2 K2
      have D2 := (B0.mono hBw).trans K2.low
      have R2 := K2.row R0 gcb gtv
      obtain ⟨r0, r1, r2, r3, r4⟩ := row5 R2
      have KK : Kd B cb mb lv tv w lv tv' w2 := (Kd.of_all B0 hBw).trans (Kd.of_kt K2)
      clear R0 H0
      dsimp only
      go_wp2_with fail
      refine (declareX B cb mb D ts _ lv tv' nm t aN aA w2 (hE.below ((unhide Hw).trans D2) hB) H2 hl).mono ?_
      rintro r w3 (⟨hn, rfl, lv', H3, K3⟩ | ⟨hn, rfl, hb3⟩)
      · have HN := hide hn
        clear hn
        dsimp only
        go_wp2_with fail
        go_ret
        exact .inl ⟨_, _, _, _, _, (if_neg (by rw [unhide HN]; exact Bool.false_ne_true) : (if (fnd D nm).isSome then (Except.error (8, i) : Except (Int × Int) Cs) else .ok (D ++ [⟨nm, true, ts.length, t⟩], ts ++ [t], tt ++ ys)) = .ok (D ++ [⟨nm, true, ts.length, t⟩], ts ++ [t], tt ++ ys)), rfl, H3, KK.trans K3⟩
      · have HN := hide hn
        clear hn
        have D3 := D2.trans (hb3.mono (Nat.le_trans hBw D2.size))
        obtain ⟨s0, s1, s2, s3, s4⟩ := row5 (R2.after hb3 (Nat.le_refl _))
        dsimp only
        go_wp2_with fail
        refine (unhide Hp _).mono ?_
        rintro r wp ⟨rfl, hbp⟩
        dsimp only
        go_wp2_with fail
        refine (faultAt_at i _ _ _).mono ?_
        rintro r wf ⟨rfl, Rf, hbf⟩
        dsimp only
        go_wp2_with fail
        go_ret
        exact .inr ⟨(8, i), _, (if_pos (unhide HN) : (if (fnd D nm).isSome then (Except.error (8, i) : Except (Int × Int) Cs) else .ok (D ++ [⟨nm, true, ts.length, t⟩], ts ++ [t], tt ++ ys)) = .error (8, i)), rfl, Rf, (D3.trans (hbp.mono (Nat.le_trans hBw D3.size))).trans (hbf.mono (Nat.le_trans (Nat.le_trans hBw D3.size) hbp.size))⟩
    · dsimp only
      go_wp2_with fail
      go_ret
      exact .inr ⟨fe, ge, rfl, rfl, hee, (B0.mono hBw).trans hb2⟩
  · have B0 := (Below.refl w.heap.size w).alloc (Nat.le_refl _) (.cells #[.int .i64 j, .int .i64 1, .string nm, .iface 170 (.agg #[.int .i64 i, .int .i64 op, .iface t1 u1, .iface t2 u2]), .iface tg ug] 90)
    have H0 := h.below B0
    have R0 := Row.new w #[.int .i64 j, .int .i64 1, .string nm, .iface 170 (.agg #[.int .i64 i, .int .i64 op, .iface t1 u1, .iface t2 u2]), .iface tg ug] 90
    have zw : (w.alloc (.cells #[.int .i64 j, .int .i64 1, .string nm, .iface 170 (.agg #[.int .i64 i, .int .i64 op, .iface t1 u1, .iface t2 u2]), .iface tg ug] 90)).heap.size = w.heap.size + 1 := by simp
    have gcb : w.heap.size ≠ cb := by have := h.C.row.lt; omega
    have gmb : w.heap.size ≠ mb := by have := h.M.lt; omega
    have gtv : tv.ownBlock ≠ some w.heap.size := fun e => by have := (h.C.types.lt _ e).2; omega
    go_enter Tryz.func66, Tryz.ntmps66
    go_wp2_with fail
    refine (unhide V tt tv _ ((unhide Hw).trans (B0.mono hBw)) H0.C H0.M hz).mono ?_
    rintro r w2 (⟨t, tv', rfl, rfl, C2, K2⟩ | ⟨fe, ge, rfl, rfl, hee, hb2⟩)
    · have H2 := H0.of_kt C2 K2
      have D2 := (B0.mono hBw).trans K2.low
      have R2 := K2.row R0 gcb gtv
      obtain ⟨r0, r1, r2, r3, r4⟩ := row5 R2
      have KK : Kd B cb mb lv tv w lv tv' w2 := (Kd.of_all B0 hBw).trans (Kd.of_kt K2)
      clear R0 H0
      dsimp only
      go_wp2_with fail
      refine (declareX B cb mb D ts _ lv tv' nm t aN aA w2 (hE.below ((unhide Hw).trans D2) hB) H2 hl).mono ?_
      rintro r w3 (⟨hn, rfl, lv', H3, K3⟩ | ⟨hn, rfl, hb3⟩)
      · have HN := hide hn
        clear hn
        dsimp only
        go_wp2_with fail
        go_ret
        exact .inl ⟨_, _, _, _, _, (if_neg (by rw [unhide HN]; exact Bool.false_ne_true) : (if (fnd D nm).isSome then (Except.error (8, i) : Except (Int × Int) Cs) else .ok (D ++ [⟨nm, true, ts.length, t⟩], ts ++ [t], tt ++ ys)) = .ok (D ++ [⟨nm, true, ts.length, t⟩], ts ++ [t], tt ++ ys)), rfl, H3, KK.trans K3⟩
      · have HN := hide hn
        clear hn
        have D3 := D2.trans (hb3.mono (Nat.le_trans hBw D2.size))
        obtain ⟨s0, s1, s2, s3, s4⟩ := row5 (R2.after hb3 (Nat.le_refl _))
        dsimp only
        go_wp2_with fail
        refine (unhide Hp _).mono ?_
        rintro r wp ⟨rfl, hbp⟩
        dsimp only
        go_wp2_with fail
        refine (faultAt_at i _ _ _).mono ?_
        rintro r wf ⟨rfl, Rf, hbf⟩
        dsimp only
        go_wp2_with fail
        go_ret
        exact .inr ⟨(8, i), _, (if_pos (unhide HN) : (if (fnd D nm).isSome then (Except.error (8, i) : Except (Int × Int) Cs) else .ok (D ++ [⟨nm, true, ts.length, t⟩], ts ++ [t], tt ++ ys)) = .error (8, i)), rfl, Rf, (D3.trans (hbp.mono (Nat.le_trans hBw D3.size))).trans (hbf.mono (Nat.le_trans (Nat.le_trans hBw D3.size) hbp.size))⟩
    · dsimp only
      go_wp2_with fail
      go_ret
      exact .inr ⟨fe, ge, rfl, rfl, hee, (B0.mono hBw).trans hb2⟩

set_option maxHeartbeats 1600000 in
set_option maxRecDepth 100000 in
theorem conditionX_when_bin (B cb mb : Nat) (D : List Dc) (ts tt : List Int) (lv tv : Value) (w0 : World) (aT aN aA : Addr) (hV : Vok w0 aT) (hE : Eok w0 aN aA) (hB : w0.heap.size ≤ B) (j : Int) (kd : Int) (hk : (kd == 1) = false) (nm : ByteArray) (i op : Int) (t1 : TypeId) (u1 : Value) (t2 : TypeId) (u2 : Value) (gv : Value) (hg : formV gv) (ot : Rs) (ys : List Int) (V : Hid (TxV aT aN aA B cb ts mb D lv w0 (.iface 170 (.agg #[.int .i64 i, .int .i64 op, .iface t1 u1, .iface t2 u2])) ot ys)) (w : World) (hw : Below B w0 w) (h : Cx B cb mb D ts tt lv tv w) (hz : tt.length + ys.length ≤ 4000) (hl : ts.length ≤ 1000) :
    Calls Tryz.prog 66 #[.pointer (some ⟨cb, 0, none⟩), .agg #[.int .i64 j, .int .i64 kd, .string nm, .iface 170 (.agg #[.int .i64 i, .int .i64 op, .iface t1 u1, .iface t2 u2]), gv]] w (GoX aT aN aA B cb mb lv tv (whenX 1 D ts tt i ot ys) w) := by
  have hBw : B ≤ w.heap.size := by have := h.C.low; have := h.C.row.lt; omega
  have hp := place_bin i op t1 u1 t2 u2
  have Hp := hide (place_of_bin i op t1 u1 t2 u2)
  have Hw := hide hw
  clear hw
  rcases hg with rfl | ⟨tg, ug, rfl⟩
  · have B0 := (Below.refl w.heap.size w).alloc (Nat.le_refl _) (.cells #[.int .i64 j, .int .i64 kd, .string nm, .iface 170 (.agg #[.int .i64 i, .int .i64 op, .iface t1 u1, .iface t2 u2]), .nilIface] 90)
    have H0 := h.below B0
    have R0 := Row.new w #[.int .i64 j, .int .i64 kd, .string nm, .iface 170 (.agg #[.int .i64 i, .int .i64 op, .iface t1 u1, .iface t2 u2]), .nilIface] 90
    have zw : (w.alloc (.cells #[.int .i64 j, .int .i64 kd, .string nm, .iface 170 (.agg #[.int .i64 i, .int .i64 op, .iface t1 u1, .iface t2 u2]), .nilIface] 90)).heap.size = w.heap.size + 1 := by simp
    have gcb : w.heap.size ≠ cb := by have := h.C.row.lt; omega
    have gmb : w.heap.size ≠ mb := by have := h.M.lt; omega
    have gtv : tv.ownBlock ≠ some w.heap.size := fun e => by have := (h.C.types.lt _ e).2; omega
    go_enter Tryz.func66, Tryz.ntmps66
    go_wp2_with fail
    refine (unhide V tt tv _ ((unhide Hw).trans (B0.mono hBw)) H0.C H0.M hz).mono ?_
    rintro r w2 (⟨t, tv', rfl, rfl, C2, K2⟩ | ⟨fe, ge, rfl, rfl, hee, hb2⟩)
    · have H2 := H0.of_kt C2 K2
      have D2 := (B0.mono hBw).trans K2.low
      have R2 := K2.row R0 gcb gtv
      obtain ⟨r0, r1, r2, r3, r4⟩ := row5 R2
      have KK : Kd B cb mb lv tv w lv tv' w2 := (Kd.of_all B0 hBw).trans (Kd.of_kt K2)
      clear R0 H0
      dsimp only
      by_cases ht : t = 1
      · subst ht
        go_wp2_with fail
        go_ret
        exact .inl ⟨_, _, _, _, _, (if_pos rfl : (if (1 : Int) = 1 then (Except.ok (D, ts, tt ++ ys) : Except (Int × Int) Cs) else .error (9, i)) = .ok (D, ts, tt ++ ys)), rfl, H2, KK⟩
      · have nt : (t != 1) = true := bne_iff_ne.2 ht
        have nt2 : (t == 1) = false := beq_eq_false_iff_ne.2 ht
        have HN := hide ht
        clear ht
        have ec := (hV.below ((unhide Hw).trans D2) hB).ec
        go_wp2_with fail
        refine (unhide Hp _).mono ?_
        rintro r wp ⟨rfl, hbp⟩
        dsimp only
        go_wp2_with fail
        refine (faultAt_at i _ _ _).mono ?_
        rintro r wf ⟨rfl, Rf, hbf⟩
        dsimp only
        go_wp2_with fail
        go_ret
        exact .inr ⟨(9, i), _, (if_neg (unhide HN) : (if t = 1 then (Except.ok (D, ts, tt ++ ys) : Except (Int × Int) Cs) else .error (9, i)) = .error (9, i)), rfl, Rf, (D2.trans (hbp.mono (Nat.le_trans hBw D2.size))).trans (hbf.mono (Nat.le_trans (Nat.le_trans hBw D2.size) hbp.size))⟩
    · dsimp only
      go_wp2_with fail
      go_ret
      exact .inr ⟨fe, ge, rfl, rfl, hee, (B0.mono hBw).trans hb2⟩
  · have B0 := (Below.refl w.heap.size w).alloc (Nat.le_refl _) (.cells #[.int .i64 j, .int .i64 kd, .string nm, .iface 170 (.agg #[.int .i64 i, .int .i64 op, .iface t1 u1, .iface t2 u2]), .iface tg ug] 90)
    have H0 := h.below B0
    have R0 := Row.new w #[.int .i64 j, .int .i64 kd, .string nm, .iface 170 (.agg #[.int .i64 i, .int .i64 op, .iface t1 u1, .iface t2 u2]), .iface tg ug] 90
    have zw : (w.alloc (.cells #[.int .i64 j, .int .i64 kd, .string nm, .iface 170 (.agg #[.int .i64 i, .int .i64 op, .iface t1 u1, .iface t2 u2]), .iface tg ug] 90)).heap.size = w.heap.size + 1 := by simp
    have gcb : w.heap.size ≠ cb := by have := h.C.row.lt; omega
    have gmb : w.heap.size ≠ mb := by have := h.M.lt; omega
    have gtv : tv.ownBlock ≠ some w.heap.size := fun e => by have := (h.C.types.lt _ e).2; omega
    go_enter Tryz.func66, Tryz.ntmps66
    go_wp2_with fail
    refine (unhide V tt tv _ ((unhide Hw).trans (B0.mono hBw)) H0.C H0.M hz).mono ?_
    rintro r w2 (⟨t, tv', rfl, rfl, C2, K2⟩ | ⟨fe, ge, rfl, rfl, hee, hb2⟩)
    · have H2 := H0.of_kt C2 K2
      have D2 := (B0.mono hBw).trans K2.low
      have R2 := K2.row R0 gcb gtv
      obtain ⟨r0, r1, r2, r3, r4⟩ := row5 R2
      have KK : Kd B cb mb lv tv w lv tv' w2 := (Kd.of_all B0 hBw).trans (Kd.of_kt K2)
      clear R0 H0
      dsimp only
      by_cases ht : t = 1
      · subst ht
        go_wp2_with fail
        go_ret
        exact .inl ⟨_, _, _, _, _, (if_pos rfl : (if (1 : Int) = 1 then (Except.ok (D, ts, tt ++ ys) : Except (Int × Int) Cs) else .error (9, i)) = .ok (D, ts, tt ++ ys)), rfl, H2, KK⟩
      · have nt : (t != 1) = true := bne_iff_ne.2 ht
        have nt2 : (t == 1) = false := beq_eq_false_iff_ne.2 ht
        have HN := hide ht
        clear ht
        have ec := (hV.below ((unhide Hw).trans D2) hB).ec
        go_wp2_with fail
        refine (unhide Hp _).mono ?_
        rintro r wp ⟨rfl, hbp⟩
        dsimp only
        go_wp2_with fail
        refine (faultAt_at i _ _ _).mono ?_
        rintro r wf ⟨rfl, Rf, hbf⟩
        dsimp only
        go_wp2_with fail
        go_ret
        exact .inr ⟨(9, i), _, (if_neg (unhide HN) : (if t = 1 then (Except.ok (D, ts, tt ++ ys) : Except (Int × Int) Cs) else .error (9, i)) = .error (9, i)), rfl, Rf, (D2.trans (hbp.mono (Nat.le_trans hBw D2.size))).trans (hbf.mono (Nat.le_trans (Nat.le_trans hBw D2.size) hbp.size))⟩
    · dsimp only
      go_wp2_with fail
      go_ret
      exact .inr ⟨fe, ge, rfl, rfl, hee, (B0.mono hBw).trans hb2⟩

set_option maxHeartbeats 1600000 in
set_option maxRecDepth 100000 in
theorem grantX_bin (B cb mb : Nat) (D : List Dc) (ts tt : List Int) (lv tv : Value) (w0 : World) (aT aN aA : Addr) (hV : Vok w0 aT) (hE : Eok w0 aN aA) (hB : w0.heap.size ≤ B) (j : Int) (kd : Int) (nm : ByteArray) (i op : Int) (t1 : TypeId) (u1 : Value) (t2 : TypeId) (u2 : Value) (gv : Value) (hg : formV gv) (ot : Rs) (ys : List Int) (V : Hid (TxV aT aN aA B cb ts mb D lv w0 (.iface 170 (.agg #[.int .i64 i, .int .i64 op, .iface t1 u1, .iface t2 u2])) ot ys)) (w : World) (hw : Below B w0 w) (h : Cx B cb mb D ts tt lv tv w) (hz : tt.length + ys.length ≤ 4000) :
    Calls Tryz.prog 67 #[.pointer (some ⟨cb, 0, none⟩), .agg #[.int .i64 j, .int .i64 kd, .string nm, gv, .iface 170 (.agg #[.int .i64 i, .int .i64 op, .iface t1 u1, .iface t2 u2])]] w (GoX aT aN aA B cb mb lv tv (whenX 4 D ts tt i ot ys) w) := by
  have hBw : B ≤ w.heap.size := by have := h.C.low; have := h.C.row.lt; omega
  have hp := place_bin i op t1 u1 t2 u2
  have Hp := hide (place_of_bin i op t1 u1 t2 u2)
  have Hw := hide hw
  clear hw
  rcases hg with rfl | ⟨tg, ug, rfl⟩
  · have B0 := (Below.refl w.heap.size w).alloc (Nat.le_refl _) (.cells #[.int .i64 j, .int .i64 kd, .string nm, .nilIface, .iface 170 (.agg #[.int .i64 i, .int .i64 op, .iface t1 u1, .iface t2 u2])] 90)
    have H0 := h.below B0
    have R0 := Row.new w #[.int .i64 j, .int .i64 kd, .string nm, .nilIface, .iface 170 (.agg #[.int .i64 i, .int .i64 op, .iface t1 u1, .iface t2 u2])] 90
    have gcb : w.heap.size ≠ cb := by have := h.C.row.lt; omega
    have gtv : tv.ownBlock ≠ some w.heap.size := fun e => by have := (h.C.types.lt _ e).2; omega
    go_enter Tryz.func67, Tryz.ntmps67
    go_wp2_with fail
    refine (unhide V tt tv _ ((unhide Hw).trans (B0.mono hBw)) H0.C H0.M hz).mono ?_
    rintro r w2 (⟨t, tv', rfl, rfl, C2, K2⟩ | ⟨fe, ge, rfl, rfl, hee, hb2⟩)
    · have H2 := H0.of_kt C2 K2
      have D2 := (B0.mono hBw).trans K2.low
      have R2 := K2.row R0 gcb gtv
      obtain ⟨r0, r1, r2, r3, r4⟩ := row5 R2
      have KK : Kd B cb mb lv tv w lv tv' w2 := (Kd.of_all B0 hBw).trans (Kd.of_kt K2)
      clear R0 H0
      dsimp only
      by_cases ht : t = 4
      · subst ht
        go_wp2_with fail
        go_ret
        exact .inl ⟨_, _, _, _, _, (if_pos rfl : (if (4 : Int) = 4 then (Except.ok (D, ts, tt ++ ys) : Except (Int × Int) Cs) else .error (9, i)) = .ok (D, ts, tt ++ ys)), rfl, H2, KK⟩
      · have nt : (t != 4) = true := bne_iff_ne.2 ht
        have nt2 : (t == 4) = false := beq_eq_false_iff_ne.2 ht
        have HN := hide ht
        clear ht
        have V2 := hV.below ((unhide Hw).trans D2) hB
        have ec := V2.ec
        have el := V2.e
        have D1 : Below w2.heap.size w2 w2.drew := (Below.refl _ _).drew
        have keep : ∀ w', Below w2.heap.size w2 w' → w'.cell? ⟨w.heap.size, 4, none⟩ = some (.iface 170 (.agg #[.int .i64 i, .int .i64 op, .iface t1 u1, .iface t2 u2])) ∧ w'.cell? ⟨11, 0, none⟩ = some (.iface 224 (.pointer (some aT))) := fun w' hb => ⟨(R2.after hb (Nat.le_refl _)).cell 4, (hb.cell (p := ⟨11, 0, none⟩) el).trans ec⟩
        have KP := hide keep
        have q1 := keep _ D1
        clear keep V2
        go_wp2_with fail
        go_region_held3 (fun w' => w'.cell? ⟨w.heap.size, 4, none⟩ = some (.iface 170 (.agg #[.int .i64 i, .int .i64 op, .iface t1 u1, .iface t2 u2])) ∧ w'.cell? ⟨11, 0, none⟩ = some (.iface 224 (.pointer (some aT)))) (first | assumption | go_keep)
          (first
            | (go_at_call 95; refine (faultAt_at i _ _ _).mono ?_; rintro r wf ⟨rfl, Rf, hbf⟩; have G3 := G2.trans (hbf.mono G2.size); have q3 := unhide KP _ G3)
            | (go_at_call 151; refine (unhide Hp _).mono ?_; rintro r wp ⟨rfl, hbp⟩; have G2 := D1.trans (hbp.mono D1.size); have q2 := unhide KP _ G2))
        go_wp2_with fail
        go_ret
        exact .inr ⟨(9, i), _, (if_neg (unhide HN) : (if t = 4 then (Except.ok (D, ts, tt ++ ys) : Except (Int × Int) Cs) else .error (9, i)) = .error (9, i)), rfl, Rf, D2.trans (G3.mono (Nat.le_trans hBw D2.size))⟩
    · dsimp only
      go_wp2_with fail
      go_ret
      exact .inr ⟨fe, ge, rfl, rfl, hee, (B0.mono hBw).trans hb2⟩
  · have B0 := (Below.refl w.heap.size w).alloc (Nat.le_refl _) (.cells #[.int .i64 j, .int .i64 kd, .string nm, .iface tg ug, .iface 170 (.agg #[.int .i64 i, .int .i64 op, .iface t1 u1, .iface t2 u2])] 90)
    have H0 := h.below B0
    have R0 := Row.new w #[.int .i64 j, .int .i64 kd, .string nm, .iface tg ug, .iface 170 (.agg #[.int .i64 i, .int .i64 op, .iface t1 u1, .iface t2 u2])] 90
    have gcb : w.heap.size ≠ cb := by have := h.C.row.lt; omega
    have gtv : tv.ownBlock ≠ some w.heap.size := fun e => by have := (h.C.types.lt _ e).2; omega
    go_enter Tryz.func67, Tryz.ntmps67
    go_wp2_with fail
    refine (unhide V tt tv _ ((unhide Hw).trans (B0.mono hBw)) H0.C H0.M hz).mono ?_
    rintro r w2 (⟨t, tv', rfl, rfl, C2, K2⟩ | ⟨fe, ge, rfl, rfl, hee, hb2⟩)
    · have H2 := H0.of_kt C2 K2
      have D2 := (B0.mono hBw).trans K2.low
      have R2 := K2.row R0 gcb gtv
      obtain ⟨r0, r1, r2, r3, r4⟩ := row5 R2
      have KK : Kd B cb mb lv tv w lv tv' w2 := (Kd.of_all B0 hBw).trans (Kd.of_kt K2)
      clear R0 H0
      dsimp only
      by_cases ht : t = 4
      · subst ht
        go_wp2_with fail
        go_ret
        exact .inl ⟨_, _, _, _, _, (if_pos rfl : (if (4 : Int) = 4 then (Except.ok (D, ts, tt ++ ys) : Except (Int × Int) Cs) else .error (9, i)) = .ok (D, ts, tt ++ ys)), rfl, H2, KK⟩
      · have nt : (t != 4) = true := bne_iff_ne.2 ht
        have nt2 : (t == 4) = false := beq_eq_false_iff_ne.2 ht
        have HN := hide ht
        clear ht
        have V2 := hV.below ((unhide Hw).trans D2) hB
        have ec := V2.ec
        have el := V2.e
        have D1 : Below w2.heap.size w2 w2.drew := (Below.refl _ _).drew
        have keep : ∀ w', Below w2.heap.size w2 w' → w'.cell? ⟨w.heap.size, 4, none⟩ = some (.iface 170 (.agg #[.int .i64 i, .int .i64 op, .iface t1 u1, .iface t2 u2])) ∧ w'.cell? ⟨11, 0, none⟩ = some (.iface 224 (.pointer (some aT))) := fun w' hb => ⟨(R2.after hb (Nat.le_refl _)).cell 4, (hb.cell (p := ⟨11, 0, none⟩) el).trans ec⟩
        have KP := hide keep
        have q1 := keep _ D1
        clear keep V2
        go_wp2_with fail
        go_region_held3 (fun w' => w'.cell? ⟨w.heap.size, 4, none⟩ = some (.iface 170 (.agg #[.int .i64 i, .int .i64 op, .iface t1 u1, .iface t2 u2])) ∧ w'.cell? ⟨11, 0, none⟩ = some (.iface 224 (.pointer (some aT)))) (first | assumption | go_keep)
          (first
            | (go_at_call 95; refine (faultAt_at i _ _ _).mono ?_; rintro r wf ⟨rfl, Rf, hbf⟩; have G3 := G2.trans (hbf.mono G2.size); have q3 := unhide KP _ G3)
            | (go_at_call 151; refine (unhide Hp _).mono ?_; rintro r wp ⟨rfl, hbp⟩; have G2 := D1.trans (hbp.mono D1.size); have q2 := unhide KP _ G2))
        go_wp2_with fail
        go_ret
        exact .inr ⟨(9, i), _, (if_neg (unhide HN) : (if t = 4 then (Except.ok (D, ts, tt ++ ys) : Except (Int × Int) Cs) else .error (9, i)) = .error (9, i)), rfl, Rf, D2.trans (G3.mono (Nat.le_trans hBw D2.size))⟩
    · dsimp only
      go_wp2_with fail
      go_ret
      exact .inr ⟨fe, ge, rfl, rfl, hee, (B0.mono hBw).trans hb2⟩

end Go.Proofs.YtddpcehgopeklaaGreatDoor

namespace Go.Proofs.YtddpcehgopeklaaGreatDoor
open Go.RowKit
set_option linter.unusedVariables false

set_option maxHeartbeats 1600000 in
set_option maxRecDepth 100000 in
theorem conditionX_let_ite (B cb mb : Nat) (D : List Dc) (ts tt : List Int) (lv tv : Value) (w0 : World) (aT aN aA : Addr) (hV : Vok w0 aT) (hE : Eok w0 aN aA) (hB : w0.heap.size ≤ B) (j : Int) (nm : ByteArray) (i : Int) (t1 : TypeId) (u1 : Value) (t2 : TypeId) (u2 : Value) (t3 : TypeId) (u3 : Value) (gv : Value) (hg : formV gv) (ot : Rs) (ys : List Int) (V : Hid (TxV aT aN aA B cb ts mb D lv w0 (.iface 172 (.agg #[.int .i64 i, .iface t1 u1, .iface t2 u2, .iface t3 u3])) ot ys)) (w : World) (hw : Below B w0 w) (h : Cx B cb mb D ts tt lv tv w) (hz : tt.length + ys.length ≤ 4000) (hl : ts.length ≤ 1000) :
    Calls Tryz.prog 66 #[.pointer (some ⟨cb, 0, none⟩), .agg #[.int .i64 j, .int .i64 1, .string nm, .iface 172 (.agg #[.int .i64 i, .iface t1 u1, .iface t2 u2, .iface t3 u3]), gv]] w (GoX aT aN aA B cb mb lv tv (letX D ts tt nm i ot ys) w) := by
  have hBw : B ≤ w.heap.size := by have := h.C.low; have := h.C.row.lt; omega
  have hp := place_ite i t1 u1 t2 u2 t3 u3
  have Hp := hide (place_of_ite i t1 u1 t2 u2 t3 u3)
  have Hw := hide hw
  clear hw
  rcases hg with rfl | ⟨tg, ug, rfl⟩
  · have B0 := (Below.refl w.heap.size w).alloc (Nat.le_refl _) (.cells #[.int .i64 j, .int .i64 1, .string nm, .iface 172 (.agg #[.int .i64 i, .iface t1 u1, .iface t2 u2, .iface t3 u3]), .nilIface] 90)
    have H0 := h.below B0
    have R0 := Row.new w #[.int .i64 j, .int .i64 1, .string nm, .iface 172 (.agg #[.int .i64 i, .iface t1 u1, .iface t2 u2, .iface t3 u3]), .nilIface] 90
    have zw : (w.alloc (.cells #[.int .i64 j, .int .i64 1, .string nm, .iface 172 (.agg #[.int .i64 i, .iface t1 u1, .iface t2 u2, .iface t3 u3]), .nilIface] 90)).heap.size = w.heap.size + 1 := by simp
    have gcb : w.heap.size ≠ cb := by have := h.C.row.lt; omega
    have gmb : w.heap.size ≠ mb := by have := h.M.lt; omega
    have gtv : tv.ownBlock ≠ some w.heap.size := fun e => by have := (h.C.types.lt _ e).2; omega
    go_enter Tryz.func66, Tryz.ntmps66
    go_wp2_with fail
    refine (unhide V tt tv _ ((unhide Hw).trans (B0.mono hBw)) H0.C H0.M hz).mono ?_
    rintro r w2 (⟨t, tv', rfl, rfl, C2, K2⟩ | ⟨fe, ge, rfl, rfl, hee, hb2⟩)
    · have H2 := H0.of_kt C2 K2
      have D2 := (B0.mono hBw).trans K2.low
      have R2 := K2.row R0 gcb gtv
      obtain ⟨r0, r1, r2, r3, r4⟩ := row5 R2
      have KK : Kd B cb mb lv tv w lv tv' w2 := (Kd.of_all B0 hBw).trans (Kd.of_kt K2)
      clear R0 H0
      dsimp only
      go_wp2_with fail
      refine (declareX B cb mb D ts _ lv tv' nm t aN aA w2 (hE.below ((unhide Hw).trans D2) hB) H2 hl).mono ?_
      rintro r w3 (⟨hn, rfl, lv', H3, K3⟩ | ⟨hn, rfl, hb3⟩)
      · have HN := hide hn
        clear hn
        dsimp only
        go_wp2_with fail
        go_ret
        exact .inl ⟨_, _, _, _, _, (if_neg (by rw [unhide HN]; exact Bool.false_ne_true) : (if (fnd D nm).isSome then (Except.error (8, i) : Except (Int × Int) Cs) else .ok (D ++ [⟨nm, true, ts.length, t⟩], ts ++ [t], tt ++ ys)) = .ok (D ++ [⟨nm, true, ts.length, t⟩], ts ++ [t], tt ++ ys)), rfl, H3, KK.trans K3⟩
      · have HN := hide hn
        clear hn
        have D3 := D2.trans (hb3.mono (Nat.le_trans hBw D2.size))
        obtain ⟨s0, s1, s2, s3, s4⟩ := row5 (R2.after hb3 (Nat.le_refl _))
        dsimp only
        go_wp2_with fail
        refine (unhide Hp _).mono ?_
        rintro r wp ⟨rfl, hbp⟩
        dsimp only
        go_wp2_with fail
        refine (faultAt_at i _ _ _).mono ?_
        rintro r wf ⟨rfl, Rf, hbf⟩
        dsimp only
        go_wp2_with fail
        go_ret
        exact .inr ⟨(8, i), _, (if_pos (unhide HN) : (if (fnd D nm).isSome then (Except.error (8, i) : Except (Int × Int) Cs) else .ok (D ++ [⟨nm, true, ts.length, t⟩], ts ++ [t], tt ++ ys)) = .error (8, i)), rfl, Rf, (D3.trans (hbp.mono (Nat.le_trans hBw D3.size))).trans (hbf.mono (Nat.le_trans (Nat.le_trans hBw D3.size) hbp.size))⟩
    · dsimp only
      go_wp2_with fail
      go_ret
      exact .inr ⟨fe, ge, rfl, rfl, hee, (B0.mono hBw).trans hb2⟩
  · have B0 := (Below.refl w.heap.size w).alloc (Nat.le_refl _) (.cells #[.int .i64 j, .int .i64 1, .string nm, .iface 172 (.agg #[.int .i64 i, .iface t1 u1, .iface t2 u2, .iface t3 u3]), .iface tg ug] 90)
    have H0 := h.below B0
    have R0 := Row.new w #[.int .i64 j, .int .i64 1, .string nm, .iface 172 (.agg #[.int .i64 i, .iface t1 u1, .iface t2 u2, .iface t3 u3]), .iface tg ug] 90
    have zw : (w.alloc (.cells #[.int .i64 j, .int .i64 1, .string nm, .iface 172 (.agg #[.int .i64 i, .iface t1 u1, .iface t2 u2, .iface t3 u3]), .iface tg ug] 90)).heap.size = w.heap.size + 1 := by simp
    have gcb : w.heap.size ≠ cb := by have := h.C.row.lt; omega
    have gmb : w.heap.size ≠ mb := by have := h.M.lt; omega
    have gtv : tv.ownBlock ≠ some w.heap.size := fun e => by have := (h.C.types.lt _ e).2; omega
    go_enter Tryz.func66, Tryz.ntmps66
    go_wp2_with fail
    refine (unhide V tt tv _ ((unhide Hw).trans (B0.mono hBw)) H0.C H0.M hz).mono ?_
    rintro r w2 (⟨t, tv', rfl, rfl, C2, K2⟩ | ⟨fe, ge, rfl, rfl, hee, hb2⟩)
    · have H2 := H0.of_kt C2 K2
      have D2 := (B0.mono hBw).trans K2.low
      have R2 := K2.row R0 gcb gtv
      obtain ⟨r0, r1, r2, r3, r4⟩ := row5 R2
      have KK : Kd B cb mb lv tv w lv tv' w2 := (Kd.of_all B0 hBw).trans (Kd.of_kt K2)
      clear R0 H0
      dsimp only
      go_wp2_with fail
      refine (declareX B cb mb D ts _ lv tv' nm t aN aA w2 (hE.below ((unhide Hw).trans D2) hB) H2 hl).mono ?_
      rintro r w3 (⟨hn, rfl, lv', H3, K3⟩ | ⟨hn, rfl, hb3⟩)
      · have HN := hide hn
        clear hn
        dsimp only
        go_wp2_with fail
        go_ret
        exact .inl ⟨_, _, _, _, _, (if_neg (by rw [unhide HN]; exact Bool.false_ne_true) : (if (fnd D nm).isSome then (Except.error (8, i) : Except (Int × Int) Cs) else .ok (D ++ [⟨nm, true, ts.length, t⟩], ts ++ [t], tt ++ ys)) = .ok (D ++ [⟨nm, true, ts.length, t⟩], ts ++ [t], tt ++ ys)), rfl, H3, KK.trans K3⟩
      · have HN := hide hn
        clear hn
        have D3 := D2.trans (hb3.mono (Nat.le_trans hBw D2.size))
        obtain ⟨s0, s1, s2, s3, s4⟩ := row5 (R2.after hb3 (Nat.le_refl _))
        dsimp only
        go_wp2_with fail
        refine (unhide Hp _).mono ?_
        rintro r wp ⟨rfl, hbp⟩
        dsimp only
        go_wp2_with fail
        refine (faultAt_at i _ _ _).mono ?_
        rintro r wf ⟨rfl, Rf, hbf⟩
        dsimp only
        go_wp2_with fail
        go_ret
        exact .inr ⟨(8, i), _, (if_pos (unhide HN) : (if (fnd D nm).isSome then (Except.error (8, i) : Except (Int × Int) Cs) else .ok (D ++ [⟨nm, true, ts.length, t⟩], ts ++ [t], tt ++ ys)) = .error (8, i)), rfl, Rf, (D3.trans (hbp.mono (Nat.le_trans hBw D3.size))).trans (hbf.mono (Nat.le_trans (Nat.le_trans hBw D3.size) hbp.size))⟩
    · dsimp only
      go_wp2_with fail
      go_ret
      exact .inr ⟨fe, ge, rfl, rfl, hee, (B0.mono hBw).trans hb2⟩

set_option maxHeartbeats 1600000 in
set_option maxRecDepth 100000 in
theorem conditionX_when_ite (B cb mb : Nat) (D : List Dc) (ts tt : List Int) (lv tv : Value) (w0 : World) (aT aN aA : Addr) (hV : Vok w0 aT) (hE : Eok w0 aN aA) (hB : w0.heap.size ≤ B) (j : Int) (kd : Int) (hk : (kd == 1) = false) (nm : ByteArray) (i : Int) (t1 : TypeId) (u1 : Value) (t2 : TypeId) (u2 : Value) (t3 : TypeId) (u3 : Value) (gv : Value) (hg : formV gv) (ot : Rs) (ys : List Int) (V : Hid (TxV aT aN aA B cb ts mb D lv w0 (.iface 172 (.agg #[.int .i64 i, .iface t1 u1, .iface t2 u2, .iface t3 u3])) ot ys)) (w : World) (hw : Below B w0 w) (h : Cx B cb mb D ts tt lv tv w) (hz : tt.length + ys.length ≤ 4000) (hl : ts.length ≤ 1000) :
    Calls Tryz.prog 66 #[.pointer (some ⟨cb, 0, none⟩), .agg #[.int .i64 j, .int .i64 kd, .string nm, .iface 172 (.agg #[.int .i64 i, .iface t1 u1, .iface t2 u2, .iface t3 u3]), gv]] w (GoX aT aN aA B cb mb lv tv (whenX 1 D ts tt i ot ys) w) := by
  have hBw : B ≤ w.heap.size := by have := h.C.low; have := h.C.row.lt; omega
  have hp := place_ite i t1 u1 t2 u2 t3 u3
  have Hp := hide (place_of_ite i t1 u1 t2 u2 t3 u3)
  have Hw := hide hw
  clear hw
  rcases hg with rfl | ⟨tg, ug, rfl⟩
  · have B0 := (Below.refl w.heap.size w).alloc (Nat.le_refl _) (.cells #[.int .i64 j, .int .i64 kd, .string nm, .iface 172 (.agg #[.int .i64 i, .iface t1 u1, .iface t2 u2, .iface t3 u3]), .nilIface] 90)
    have H0 := h.below B0
    have R0 := Row.new w #[.int .i64 j, .int .i64 kd, .string nm, .iface 172 (.agg #[.int .i64 i, .iface t1 u1, .iface t2 u2, .iface t3 u3]), .nilIface] 90
    have zw : (w.alloc (.cells #[.int .i64 j, .int .i64 kd, .string nm, .iface 172 (.agg #[.int .i64 i, .iface t1 u1, .iface t2 u2, .iface t3 u3]), .nilIface] 90)).heap.size = w.heap.size + 1 := by simp
    have gcb : w.heap.size ≠ cb := by have := h.C.row.lt; omega
    have gmb : w.heap.size ≠ mb := by have := h.M.lt; omega
    have gtv : tv.ownBlock ≠ some w.heap.size := fun e => by have := (h.C.types.lt _ e).2; omega
    go_enter Tryz.func66, Tryz.ntmps66
    go_wp2_with fail
    refine (unhide V tt tv _ ((unhide Hw).trans (B0.mono hBw)) H0.C H0.M hz).mono ?_
    rintro r w2 (⟨t, tv', rfl, rfl, C2, K2⟩ | ⟨fe, ge, rfl, rfl, hee, hb2⟩)
    · have H2 := H0.of_kt C2 K2
      have D2 := (B0.mono hBw).trans K2.low
      have R2 := K2.row R0 gcb gtv
      obtain ⟨r0, r1, r2, r3, r4⟩ := row5 R2
      have KK : Kd B cb mb lv tv w lv tv' w2 := (Kd.of_all B0 hBw).trans (Kd.of_kt K2)
      clear R0 H0
      dsimp only
      by_cases ht : t = 1
      · subst ht
        go_wp2_with fail
        go_ret
        exact .inl ⟨_, _, _, _, _, (if_pos rfl : (if (1 : Int) = 1 then (Except.ok (D, ts, tt ++ ys) : Except (Int × Int) Cs) else .error (9, i)) = .ok (D, ts, tt ++ ys)), rfl, H2, KK⟩
      · have nt : (t != 1) = true := bne_iff_ne.2 ht
        have nt2 : (t == 1) = false := beq_eq_false_iff_ne.2 ht
        have HN := hide ht
        clear ht
        have ec := (hV.below ((unhide Hw).trans D2) hB).ec
        go_wp2_with fail
        refine (unhide Hp _).mono ?_
        rintro r wp ⟨rfl, hbp⟩
        dsimp only
        go_wp2_with fail
        refine (faultAt_at i _ _ _).mono ?_
        rintro r wf ⟨rfl, Rf, hbf⟩
        dsimp only
        go_wp2_with fail
        go_ret
        exact .inr ⟨(9, i), _, (if_neg (unhide HN) : (if t = 1 then (Except.ok (D, ts, tt ++ ys) : Except (Int × Int) Cs) else .error (9, i)) = .error (9, i)), rfl, Rf, (D2.trans (hbp.mono (Nat.le_trans hBw D2.size))).trans (hbf.mono (Nat.le_trans (Nat.le_trans hBw D2.size) hbp.size))⟩
    · dsimp only
      go_wp2_with fail
      go_ret
      exact .inr ⟨fe, ge, rfl, rfl, hee, (B0.mono hBw).trans hb2⟩
  · have B0 := (Below.refl w.heap.size w).alloc (Nat.le_refl _) (.cells #[.int .i64 j, .int .i64 kd, .string nm, .iface 172 (.agg #[.int .i64 i, .iface t1 u1, .iface t2 u2, .iface t3 u3]), .iface tg ug] 90)
    have H0 := h.below B0
    have R0 := Row.new w #[.int .i64 j, .int .i64 kd, .string nm, .iface 172 (.agg #[.int .i64 i, .iface t1 u1, .iface t2 u2, .iface t3 u3]), .iface tg ug] 90
    have zw : (w.alloc (.cells #[.int .i64 j, .int .i64 kd, .string nm, .iface 172 (.agg #[.int .i64 i, .iface t1 u1, .iface t2 u2, .iface t3 u3]), .iface tg ug] 90)).heap.size = w.heap.size + 1 := by simp
    have gcb : w.heap.size ≠ cb := by have := h.C.row.lt; omega
    have gmb : w.heap.size ≠ mb := by have := h.M.lt; omega
    have gtv : tv.ownBlock ≠ some w.heap.size := fun e => by have := (h.C.types.lt _ e).2; omega
    go_enter Tryz.func66, Tryz.ntmps66
    go_wp2_with fail
    refine (unhide V tt tv _ ((unhide Hw).trans (B0.mono hBw)) H0.C H0.M hz).mono ?_
    rintro r w2 (⟨t, tv', rfl, rfl, C2, K2⟩ | ⟨fe, ge, rfl, rfl, hee, hb2⟩)
    · have H2 := H0.of_kt C2 K2
      have D2 := (B0.mono hBw).trans K2.low
      have R2 := K2.row R0 gcb gtv
      obtain ⟨r0, r1, r2, r3, r4⟩ := row5 R2
      have KK : Kd B cb mb lv tv w lv tv' w2 := (Kd.of_all B0 hBw).trans (Kd.of_kt K2)
      clear R0 H0
      dsimp only
      by_cases ht : t = 1
      · subst ht
        go_wp2_with fail
        go_ret
        exact .inl ⟨_, _, _, _, _, (if_pos rfl : (if (1 : Int) = 1 then (Except.ok (D, ts, tt ++ ys) : Except (Int × Int) Cs) else .error (9, i)) = .ok (D, ts, tt ++ ys)), rfl, H2, KK⟩
      · have nt : (t != 1) = true := bne_iff_ne.2 ht
        have nt2 : (t == 1) = false := beq_eq_false_iff_ne.2 ht
        have HN := hide ht
        clear ht
        have ec := (hV.below ((unhide Hw).trans D2) hB).ec
        go_wp2_with fail
        refine (unhide Hp _).mono ?_
        rintro r wp ⟨rfl, hbp⟩
        dsimp only
        go_wp2_with fail
        refine (faultAt_at i _ _ _).mono ?_
        rintro r wf ⟨rfl, Rf, hbf⟩
        dsimp only
        go_wp2_with fail
        go_ret
        exact .inr ⟨(9, i), _, (if_neg (unhide HN) : (if t = 1 then (Except.ok (D, ts, tt ++ ys) : Except (Int × Int) Cs) else .error (9, i)) = .error (9, i)), rfl, Rf, (D2.trans (hbp.mono (Nat.le_trans hBw D2.size))).trans (hbf.mono (Nat.le_trans (Nat.le_trans hBw D2.size) hbp.size))⟩
    · dsimp only
      go_wp2_with fail
      go_ret
      exact .inr ⟨fe, ge, rfl, rfl, hee, (B0.mono hBw).trans hb2⟩

set_option maxHeartbeats 1600000 in
set_option maxRecDepth 100000 in
theorem grantX_ite (B cb mb : Nat) (D : List Dc) (ts tt : List Int) (lv tv : Value) (w0 : World) (aT aN aA : Addr) (hV : Vok w0 aT) (hE : Eok w0 aN aA) (hB : w0.heap.size ≤ B) (j : Int) (kd : Int) (nm : ByteArray) (i : Int) (t1 : TypeId) (u1 : Value) (t2 : TypeId) (u2 : Value) (t3 : TypeId) (u3 : Value) (gv : Value) (hg : formV gv) (ot : Rs) (ys : List Int) (V : Hid (TxV aT aN aA B cb ts mb D lv w0 (.iface 172 (.agg #[.int .i64 i, .iface t1 u1, .iface t2 u2, .iface t3 u3])) ot ys)) (w : World) (hw : Below B w0 w) (h : Cx B cb mb D ts tt lv tv w) (hz : tt.length + ys.length ≤ 4000) :
    Calls Tryz.prog 67 #[.pointer (some ⟨cb, 0, none⟩), .agg #[.int .i64 j, .int .i64 kd, .string nm, gv, .iface 172 (.agg #[.int .i64 i, .iface t1 u1, .iface t2 u2, .iface t3 u3])]] w (GoX aT aN aA B cb mb lv tv (whenX 4 D ts tt i ot ys) w) := by
  have hBw : B ≤ w.heap.size := by have := h.C.low; have := h.C.row.lt; omega
  have hp := place_ite i t1 u1 t2 u2 t3 u3
  have Hp := hide (place_of_ite i t1 u1 t2 u2 t3 u3)
  have Hw := hide hw
  clear hw
  rcases hg with rfl | ⟨tg, ug, rfl⟩
  · have B0 := (Below.refl w.heap.size w).alloc (Nat.le_refl _) (.cells #[.int .i64 j, .int .i64 kd, .string nm, .nilIface, .iface 172 (.agg #[.int .i64 i, .iface t1 u1, .iface t2 u2, .iface t3 u3])] 90)
    have H0 := h.below B0
    have R0 := Row.new w #[.int .i64 j, .int .i64 kd, .string nm, .nilIface, .iface 172 (.agg #[.int .i64 i, .iface t1 u1, .iface t2 u2, .iface t3 u3])] 90
    have gcb : w.heap.size ≠ cb := by have := h.C.row.lt; omega
    have gtv : tv.ownBlock ≠ some w.heap.size := fun e => by have := (h.C.types.lt _ e).2; omega
    go_enter Tryz.func67, Tryz.ntmps67
    go_wp2_with fail
    refine (unhide V tt tv _ ((unhide Hw).trans (B0.mono hBw)) H0.C H0.M hz).mono ?_
    rintro r w2 (⟨t, tv', rfl, rfl, C2, K2⟩ | ⟨fe, ge, rfl, rfl, hee, hb2⟩)
    · have H2 := H0.of_kt C2 K2
      have D2 := (B0.mono hBw).trans K2.low
      have R2 := K2.row R0 gcb gtv
      obtain ⟨r0, r1, r2, r3, r4⟩ := row5 R2
      have KK : Kd B cb mb lv tv w lv tv' w2 := (Kd.of_all B0 hBw).trans (Kd.of_kt K2)
      clear R0 H0
      dsimp only
      by_cases ht : t = 4
      · subst ht
        go_wp2_with fail
        go_ret
        exact .inl ⟨_, _, _, _, _, (if_pos rfl : (if (4 : Int) = 4 then (Except.ok (D, ts, tt ++ ys) : Except (Int × Int) Cs) else .error (9, i)) = .ok (D, ts, tt ++ ys)), rfl, H2, KK⟩
      · have nt : (t != 4) = true := bne_iff_ne.2 ht
        have nt2 : (t == 4) = false := beq_eq_false_iff_ne.2 ht
        have HN := hide ht
        clear ht
        have V2 := hV.below ((unhide Hw).trans D2) hB
        have ec := V2.ec
        have el := V2.e
        have D1 : Below w2.heap.size w2 w2.drew := (Below.refl _ _).drew
        have keep : ∀ w', Below w2.heap.size w2 w' → w'.cell? ⟨w.heap.size, 4, none⟩ = some (.iface 172 (.agg #[.int .i64 i, .iface t1 u1, .iface t2 u2, .iface t3 u3])) ∧ w'.cell? ⟨11, 0, none⟩ = some (.iface 224 (.pointer (some aT))) := fun w' hb => ⟨(R2.after hb (Nat.le_refl _)).cell 4, (hb.cell (p := ⟨11, 0, none⟩) el).trans ec⟩
        have KP := hide keep
        have q1 := keep _ D1
        clear keep V2
        go_wp2_with fail
        go_region_held3 (fun w' => w'.cell? ⟨w.heap.size, 4, none⟩ = some (.iface 172 (.agg #[.int .i64 i, .iface t1 u1, .iface t2 u2, .iface t3 u3])) ∧ w'.cell? ⟨11, 0, none⟩ = some (.iface 224 (.pointer (some aT)))) (first | assumption | go_keep)
          (first
            | (go_at_call 95; refine (faultAt_at i _ _ _).mono ?_; rintro r wf ⟨rfl, Rf, hbf⟩; have G3 := G2.trans (hbf.mono G2.size); have q3 := unhide KP _ G3)
            | (go_at_call 153; refine (unhide Hp _).mono ?_; rintro r wp ⟨rfl, hbp⟩; have G2 := D1.trans (hbp.mono D1.size); have q2 := unhide KP _ G2))
        go_wp2_with fail
        go_ret
        exact .inr ⟨(9, i), _, (if_neg (unhide HN) : (if t = 4 then (Except.ok (D, ts, tt ++ ys) : Except (Int × Int) Cs) else .error (9, i)) = .error (9, i)), rfl, Rf, D2.trans (G3.mono (Nat.le_trans hBw D2.size))⟩
    · dsimp only
      go_wp2_with fail
      go_ret
      exact .inr ⟨fe, ge, rfl, rfl, hee, (B0.mono hBw).trans hb2⟩
  · have B0 := (Below.refl w.heap.size w).alloc (Nat.le_refl _) (.cells #[.int .i64 j, .int .i64 kd, .string nm, .iface tg ug, .iface 172 (.agg #[.int .i64 i, .iface t1 u1, .iface t2 u2, .iface t3 u3])] 90)
    have H0 := h.below B0
    have R0 := Row.new w #[.int .i64 j, .int .i64 kd, .string nm, .iface tg ug, .iface 172 (.agg #[.int .i64 i, .iface t1 u1, .iface t2 u2, .iface t3 u3])] 90
    have gcb : w.heap.size ≠ cb := by have := h.C.row.lt; omega
    have gtv : tv.ownBlock ≠ some w.heap.size := fun e => by have := (h.C.types.lt _ e).2; omega
    go_enter Tryz.func67, Tryz.ntmps67
    go_wp2_with fail
    refine (unhide V tt tv _ ((unhide Hw).trans (B0.mono hBw)) H0.C H0.M hz).mono ?_
    rintro r w2 (⟨t, tv', rfl, rfl, C2, K2⟩ | ⟨fe, ge, rfl, rfl, hee, hb2⟩)
    · have H2 := H0.of_kt C2 K2
      have D2 := (B0.mono hBw).trans K2.low
      have R2 := K2.row R0 gcb gtv
      obtain ⟨r0, r1, r2, r3, r4⟩ := row5 R2
      have KK : Kd B cb mb lv tv w lv tv' w2 := (Kd.of_all B0 hBw).trans (Kd.of_kt K2)
      clear R0 H0
      dsimp only
      by_cases ht : t = 4
      · subst ht
        go_wp2_with fail
        go_ret
        exact .inl ⟨_, _, _, _, _, (if_pos rfl : (if (4 : Int) = 4 then (Except.ok (D, ts, tt ++ ys) : Except (Int × Int) Cs) else .error (9, i)) = .ok (D, ts, tt ++ ys)), rfl, H2, KK⟩
      · have nt : (t != 4) = true := bne_iff_ne.2 ht
        have nt2 : (t == 4) = false := beq_eq_false_iff_ne.2 ht
        have HN := hide ht
        clear ht
        have V2 := hV.below ((unhide Hw).trans D2) hB
        have ec := V2.ec
        have el := V2.e
        have D1 : Below w2.heap.size w2 w2.drew := (Below.refl _ _).drew
        have keep : ∀ w', Below w2.heap.size w2 w' → w'.cell? ⟨w.heap.size, 4, none⟩ = some (.iface 172 (.agg #[.int .i64 i, .iface t1 u1, .iface t2 u2, .iface t3 u3])) ∧ w'.cell? ⟨11, 0, none⟩ = some (.iface 224 (.pointer (some aT))) := fun w' hb => ⟨(R2.after hb (Nat.le_refl _)).cell 4, (hb.cell (p := ⟨11, 0, none⟩) el).trans ec⟩
        have KP := hide keep
        have q1 := keep _ D1
        clear keep V2
        go_wp2_with fail
        go_region_held3 (fun w' => w'.cell? ⟨w.heap.size, 4, none⟩ = some (.iface 172 (.agg #[.int .i64 i, .iface t1 u1, .iface t2 u2, .iface t3 u3])) ∧ w'.cell? ⟨11, 0, none⟩ = some (.iface 224 (.pointer (some aT)))) (first | assumption | go_keep)
          (first
            | (go_at_call 95; refine (faultAt_at i _ _ _).mono ?_; rintro r wf ⟨rfl, Rf, hbf⟩; have G3 := G2.trans (hbf.mono G2.size); have q3 := unhide KP _ G3)
            | (go_at_call 153; refine (unhide Hp _).mono ?_; rintro r wp ⟨rfl, hbp⟩; have G2 := D1.trans (hbp.mono D1.size); have q2 := unhide KP _ G2))
        go_wp2_with fail
        go_ret
        exact .inr ⟨(9, i), _, (if_neg (unhide HN) : (if t = 4 then (Except.ok (D, ts, tt ++ ys) : Except (Int × Int) Cs) else .error (9, i)) = .error (9, i)), rfl, Rf, D2.trans (G3.mono (Nat.le_trans hBw D2.size))⟩
    · dsimp only
      go_wp2_with fail
      go_ret
      exact .inr ⟨fe, ge, rfl, rfl, hee, (B0.mono hBw).trans hb2⟩

end Go.Proofs.YtddpcehgopeklaaGreatDoor

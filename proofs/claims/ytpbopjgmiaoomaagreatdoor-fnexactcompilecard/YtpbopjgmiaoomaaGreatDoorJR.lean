/-
  A statement's condition and grant, looked at. Own work.
-/
import Derived.Test.YtpbopjgmiaoomaaGreatDoorMXAN
namespace Go.Proofs.YtpbopjgmiaoomaaGreatDoor
open Go.RowKit
set_option linter.unusedVariables false

/-- the checker goes on, or there is an error -/
def GoAns (B cb mb : Nat) (lv tv : Value) (o : Option (List ByteArray × List Int × List Int)) (w : World) (r : Ending) (w' : World) : Prop :=
  (∃ ns ts tt lv' tv', o = some (ns, ts, tt) ∧ r = .returned .nilIface ∧ Cm B cb mb ns ts tt lv' tv' w' ∧ Kd B cb mb lv tv w lv' tv' w') ∨ (o = none ∧ (∃ t u, r = .returned (.iface t u)) ∧ Below B w w')

def formV (v : Value) : Prop := v = .nilIface ∨ ∃ t u, v = .iface t u

set_option maxRecDepth 100000 in
theorem condition_none (B cb mb : Nat) (ns : List ByteArray) (ts tt : List Int) (lv tv : Value) (j : Nat) (kd : Int) (nm : ByteArray) (gv : Value) (hg : formV gv) (w : World) (h : Cm B cb mb ns ts tt lv tv w) :
    Calls Tryz.prog 82 #[.pointer (some ⟨cb, 0, none⟩), .agg #[.int .i64 j, .int .i64 kd, .string nm, .nilIface, gv]] w (GoAns B cb mb lv tv (some (ns, ts, tt)) w) := by
  have hBw : B ≤ w.heap.size := by have := h.C.low; have := h.C.row.lt; omega
  rcases hg with rfl | ⟨tg, ug, rfl⟩
  · have B0 := (Below.refl w.heap.size w).alloc (Nat.le_refl _) (.cells #[.int .i64 j, .int .i64 kd, .string nm, .nilIface, .nilIface] 77)
    go_enter Tryz.func82, Tryz.ntmps82
    go_wp2_with fail
    go_ret
    exact .inl ⟨_, _, _, _, _, rfl, rfl, h.below B0, Kd.of_all B0 hBw⟩
  · have B0 := (Below.refl w.heap.size w).alloc (Nat.le_refl _) (.cells #[.int .i64 j, .int .i64 kd, .string nm, .nilIface, .iface tg ug] 77)
    go_enter Tryz.func82, Tryz.ntmps82
    go_wp2_with fail
    go_ret
    exact .inl ⟨_, _, _, _, _, rfl, rfl, h.below B0, Kd.of_all B0 hBw⟩

set_option maxRecDepth 100000 in
theorem grant_none (B cb mb : Nat) (ns : List ByteArray) (ts tt : List Int) (lv tv : Value) (j : Nat) (kd : Int) (nm : ByteArray) (gv : Value) (hg : formV gv) (w : World) (h : Cm B cb mb ns ts tt lv tv w) :
    Calls Tryz.prog 83 #[.pointer (some ⟨cb, 0, none⟩), .agg #[.int .i64 j, .int .i64 kd, .string nm, gv, .nilIface]] w (GoAns B cb mb lv tv (some (ns, ts, tt)) w) := by
  have hBw : B ≤ w.heap.size := by have := h.C.low; have := h.C.row.lt; omega
  rcases hg with rfl | ⟨tg, ug, rfl⟩
  · have B0 := (Below.refl w.heap.size w).alloc (Nat.le_refl _) (.cells #[.int .i64 j, .int .i64 kd, .string nm, .nilIface, .nilIface] 77)
    go_enter Tryz.func83, Tryz.ntmps83
    go_wp2_with fail
    go_ret
    exact .inl ⟨_, _, _, _, _, rfl, rfl, h.below B0, Kd.of_all B0 hBw⟩
  · have B0 := (Below.refl w.heap.size w).alloc (Nat.le_refl _) (.cells #[.int .i64 j, .int .i64 kd, .string nm, .iface tg ug, .nilIface] 77)
    go_enter Tryz.func83, Tryz.ntmps83
    go_wp2_with fail
    go_ret
    exact .inl ⟨_, _, _, _, _, rfl, rfl, h.below B0, Kd.of_all B0 hBw⟩

open Classical in
set_option maxHeartbeats 1600000 in
set_option maxRecDepth 100000 in
theorem condition_let_leaf (B cb mb : Nat) (ns : List ByteArray) (ts tt : List Int) (lv tv : Value) (w0 : World) (aT aN aA : Addr) (hV : Vok w0 aT) (hE : Eok w0 aN aA) (hB : w0.heap.size ≤ B) (j : Nat) (nm : ByteArray) (T : TypeId) (v : Value) (i : Int) (hp : ∀ w, (method 344 T v "loop.example/s01308/impl.place").run Tryz.prog w = .ok (148, .int .i64 i) w) (gv : Value) (hg : formV gv) (ot : Option Int) (ys : List Int) (V : Hid (TyV B cb ts (.map (some mb)) lv w0 (.iface T v) ot ys)) (w : World) (hw : Below B w0 w) (h : Cm B cb mb ns ts tt lv tv w) (hz : tt.length + ys.length ≤ 4000) (hl : ts.length ≤ 1000) :
    Calls Tryz.prog 82 #[.pointer (some ⟨cb, 0, none⟩), .agg #[.int .i64 j, .int .i64 1, .string nm, .iface T v, gv]] w (GoAns B cb mb lv tv (match ot with | some t => if nm ∈ ns then none else some (ns ++ [nm], ts ++ [t], tt ++ ys) | none => none) w) := by
  have hBw : B ≤ w.heap.size := by have := h.C.low; have := h.C.row.lt; omega
  have Hp := hide (fun w => (place_leaf i w).mono (R' := fun r w' => r = .returned (.int .i64 i) ∧ Below w.heap.size w w') (fun r w' ⟨h1, h2⟩ => ⟨h1, by rw [h2]; exact Below.refl _ _⟩))
  have Hw := hide hw
  clear hw
  rcases hg with rfl | ⟨tg, ug, rfl⟩
  · have B0 := (Below.refl w.heap.size w).alloc (Nat.le_refl _) (.cells #[.int .i64 j, .int .i64 1, .string nm, .iface T v, .nilIface] 77)
    have H0 := h.below B0
    have R0 := Row.new w #[.int .i64 j, .int .i64 1, .string nm, .iface T v, .nilIface] 77
    have zw : (w.alloc (.cells #[.int .i64 j, .int .i64 1, .string nm, .iface T v, .nilIface] 77)).heap.size = w.heap.size + 1 := by simp
    have gcb : w.heap.size ≠ cb := by have := h.C.row.lt; omega
    have gmb : w.heap.size ≠ mb := by have := h.M.lt; omega
    have gtv : tv.ownBlock ≠ some w.heap.size := fun e => by have := (h.C.types.lt _ e).2; omega
    go_enter Tryz.func82, Tryz.ntmps82
    go_wp2_with fail
    refine (unhide V tt tv _ ((unhide Hw).trans (B0.mono hBw)) H0.C hz).mono ?_
    rintro r w2 (⟨t, tv', rfl, rfl, C2, K2⟩ | ⟨rfl, ⟨z, t, u, rfl⟩, hb2⟩)
    · have H2 := H0.of_kt C2 K2
      have D2 := (B0.mono hBw).trans K2.low
      have R2 := K2.row R0 gcb gtv
      obtain ⟨r0, r1, r2, r3, r4⟩ := row5 R2
      have KK : Kd B cb mb lv tv w lv tv' w2 := (Kd.of_all B0 hBw).trans (Kd.of_kt K2)
      clear R0 H0
      dsimp only
      go_wp2_with fail
      refine (declare_any B cb mb ns ts _ lv tv' nm t aN aA w2 (hE.below ((unhide Hw).trans D2) hB) H2 hl).mono ?_
      rintro r w3 (⟨hn, rfl, lv', H3, K3⟩ | ⟨hn, ⟨te, ue, rfl⟩, hb3⟩)
      · have HN := hide hn
        clear hn
        dsimp only
        go_wp2_with fail
        go_ret
        exact .inl ⟨_, _, _, _, _, (by first | rfl | exact if_neg (unhide HN)), rfl, H3, KK.trans K3⟩
      · have HN := hide hn
        clear hn
        have D3 := D2.trans (hb3.mono (Nat.le_trans hBw D2.size))
        obtain ⟨s0, s1, s2, s3, s4⟩ := row5 (R2.after hb3 (Nat.le_refl _))
        dsimp only
        go_wp2_with fail
        refine (unhide Hp _).mono ?_
        rintro r wp ⟨rfl, hbp⟩
        dsimp only
        go_wp2_with fail
        refine (faultAt_any i _ _ _).mono ?_
        rintro r wf ⟨⟨t', u', rfl⟩, hbf⟩
        dsimp only
        go_wp2_with fail
        go_ret
        exact .inr ⟨(by first | rfl | exact if_pos (unhide HN)), ⟨_, _, rfl⟩, (D3.trans (hbp.mono (Nat.le_trans hBw D3.size))).trans (hbf.mono (Nat.le_trans (Nat.le_trans hBw D3.size) hbp.size))⟩
    · dsimp only
      go_wp2_with fail
      go_ret
      exact .inr ⟨rfl, ⟨_, _, rfl⟩, (B0.mono hBw).trans hb2⟩
  · have B0 := (Below.refl w.heap.size w).alloc (Nat.le_refl _) (.cells #[.int .i64 j, .int .i64 1, .string nm, .iface T v, .iface tg ug] 77)
    have H0 := h.below B0
    have R0 := Row.new w #[.int .i64 j, .int .i64 1, .string nm, .iface T v, .iface tg ug] 77
    have zw : (w.alloc (.cells #[.int .i64 j, .int .i64 1, .string nm, .iface T v, .iface tg ug] 77)).heap.size = w.heap.size + 1 := by simp
    have gcb : w.heap.size ≠ cb := by have := h.C.row.lt; omega
    have gmb : w.heap.size ≠ mb := by have := h.M.lt; omega
    have gtv : tv.ownBlock ≠ some w.heap.size := fun e => by have := (h.C.types.lt _ e).2; omega
    go_enter Tryz.func82, Tryz.ntmps82
    go_wp2_with fail
    refine (unhide V tt tv _ ((unhide Hw).trans (B0.mono hBw)) H0.C hz).mono ?_
    rintro r w2 (⟨t, tv', rfl, rfl, C2, K2⟩ | ⟨rfl, ⟨z, t, u, rfl⟩, hb2⟩)
    · have H2 := H0.of_kt C2 K2
      have D2 := (B0.mono hBw).trans K2.low
      have R2 := K2.row R0 gcb gtv
      obtain ⟨r0, r1, r2, r3, r4⟩ := row5 R2
      have KK : Kd B cb mb lv tv w lv tv' w2 := (Kd.of_all B0 hBw).trans (Kd.of_kt K2)
      clear R0 H0
      dsimp only
      go_wp2_with fail
      refine (declare_any B cb mb ns ts _ lv tv' nm t aN aA w2 (hE.below ((unhide Hw).trans D2) hB) H2 hl).mono ?_
      rintro r w3 (⟨hn, rfl, lv', H3, K3⟩ | ⟨hn, ⟨te, ue, rfl⟩, hb3⟩)
      · have HN := hide hn
        clear hn
        dsimp only
        go_wp2_with fail
        go_ret
        exact .inl ⟨_, _, _, _, _, (by first | rfl | exact if_neg (unhide HN)), rfl, H3, KK.trans K3⟩
      · have HN := hide hn
        clear hn
        have D3 := D2.trans (hb3.mono (Nat.le_trans hBw D2.size))
        obtain ⟨s0, s1, s2, s3, s4⟩ := row5 (R2.after hb3 (Nat.le_refl _))
        dsimp only
        go_wp2_with fail
        refine (unhide Hp _).mono ?_
        rintro r wp ⟨rfl, hbp⟩
        dsimp only
        go_wp2_with fail
        refine (faultAt_any i _ _ _).mono ?_
        rintro r wf ⟨⟨t', u', rfl⟩, hbf⟩
        dsimp only
        go_wp2_with fail
        go_ret
        exact .inr ⟨(by first | rfl | exact if_pos (unhide HN)), ⟨_, _, rfl⟩, (D3.trans (hbp.mono (Nat.le_trans hBw D3.size))).trans (hbf.mono (Nat.le_trans (Nat.le_trans hBw D3.size) hbp.size))⟩
    · dsimp only
      go_wp2_with fail
      go_ret
      exact .inr ⟨rfl, ⟨_, _, rfl⟩, (B0.mono hBw).trans hb2⟩

open Classical in
set_option maxHeartbeats 1600000 in
set_option maxRecDepth 100000 in
theorem condition_when_leaf (B cb mb : Nat) (ns : List ByteArray) (ts tt : List Int) (lv tv : Value) (w0 : World) (aT aN aA : Addr) (hV : Vok w0 aT) (hE : Eok w0 aN aA) (hB : w0.heap.size ≤ B) (j : Nat) (kd : Int) (hk : (kd == 1) = false) (nm : ByteArray) (T : TypeId) (v : Value) (i : Int) (hp : ∀ w, (method 344 T v "loop.example/s01308/impl.place").run Tryz.prog w = .ok (148, .int .i64 i) w) (gv : Value) (hg : formV gv) (ot : Option Int) (ys : List Int) (V : Hid (TyV B cb ts (.map (some mb)) lv w0 (.iface T v) ot ys)) (w : World) (hw : Below B w0 w) (h : Cm B cb mb ns ts tt lv tv w) (hz : tt.length + ys.length ≤ 4000) (hl : ts.length ≤ 1000) :
    Calls Tryz.prog 82 #[.pointer (some ⟨cb, 0, none⟩), .agg #[.int .i64 j, .int .i64 kd, .string nm, .iface T v, gv]] w (GoAns B cb mb lv tv (match ot with | some t => if t = 1 then some (ns, ts, tt ++ ys) else none | none => none) w) := by
  have hBw : B ≤ w.heap.size := by have := h.C.low; have := h.C.row.lt; omega
  have Hp := hide (fun w => (place_leaf i w).mono (R' := fun r w' => r = .returned (.int .i64 i) ∧ Below w.heap.size w w') (fun r w' ⟨h1, h2⟩ => ⟨h1, by rw [h2]; exact Below.refl _ _⟩))
  have Hw := hide hw
  clear hw
  rcases hg with rfl | ⟨tg, ug, rfl⟩
  · have B0 := (Below.refl w.heap.size w).alloc (Nat.le_refl _) (.cells #[.int .i64 j, .int .i64 kd, .string nm, .iface T v, .nilIface] 77)
    have H0 := h.below B0
    have R0 := Row.new w #[.int .i64 j, .int .i64 kd, .string nm, .iface T v, .nilIface] 77
    have zw : (w.alloc (.cells #[.int .i64 j, .int .i64 kd, .string nm, .iface T v, .nilIface] 77)).heap.size = w.heap.size + 1 := by simp
    have gcb : w.heap.size ≠ cb := by have := h.C.row.lt; omega
    have gmb : w.heap.size ≠ mb := by have := h.M.lt; omega
    have gtv : tv.ownBlock ≠ some w.heap.size := fun e => by have := (h.C.types.lt _ e).2; omega
    go_enter Tryz.func82, Tryz.ntmps82
    go_wp2_with fail
    refine (unhide V tt tv _ ((unhide Hw).trans (B0.mono hBw)) H0.C hz).mono ?_
    rintro r w2 (⟨t, tv', rfl, rfl, C2, K2⟩ | ⟨rfl, ⟨z, t, u, rfl⟩, hb2⟩)
    · have H2 := H0.of_kt C2 K2
      have D2 := (B0.mono hBw).trans K2.low
      have R2 := K2.row R0 gcb gtv
      obtain ⟨r0, r1, r2, r3, r4⟩ := row5 R2
      have KK : Kd B cb mb lv tv w lv tv' w2 := (Kd.of_all B0 hBw).trans (Kd.of_kt K2)
      clear R0 H0
      dsimp only
      by_cases ht : t = 1
      · subst ht
        go_wp2_with fail
        go_ret
        exact .inl ⟨_, _, _, _, _, (by first | rfl | exact if_pos rfl), rfl, H2, KK⟩
      · have nt : (t != 1) = true := bne_iff_ne.2 ht
        have nt2 : (t == 1) = false := beq_eq_false_iff_ne.2 ht
        have HN := hide ht
        clear ht
        have ec := (hV.below ((unhide Hw).trans D2) hB).ec
        go_wp2_with fail
        refine (unhide Hp _).mono ?_
        rintro r wp ⟨rfl, hbp⟩
        dsimp only
        go_wp2_with fail
        refine (faultAt_any i _ _ _).mono ?_
        rintro r wf ⟨⟨t', u', rfl⟩, hbf⟩
        dsimp only
        go_wp2_with fail
        go_ret
        exact .inr ⟨(by first | rfl | exact if_neg (unhide HN)), ⟨_, _, rfl⟩, (D2.trans (hbp.mono (Nat.le_trans hBw D2.size))).trans (hbf.mono (Nat.le_trans (Nat.le_trans hBw D2.size) hbp.size))⟩
    · dsimp only
      go_wp2_with fail
      go_ret
      exact .inr ⟨rfl, ⟨_, _, rfl⟩, (B0.mono hBw).trans hb2⟩
  · have B0 := (Below.refl w.heap.size w).alloc (Nat.le_refl _) (.cells #[.int .i64 j, .int .i64 kd, .string nm, .iface T v, .iface tg ug] 77)
    have H0 := h.below B0
    have R0 := Row.new w #[.int .i64 j, .int .i64 kd, .string nm, .iface T v, .iface tg ug] 77
    have zw : (w.alloc (.cells #[.int .i64 j, .int .i64 kd, .string nm, .iface T v, .iface tg ug] 77)).heap.size = w.heap.size + 1 := by simp
    have gcb : w.heap.size ≠ cb := by have := h.C.row.lt; omega
    have gmb : w.heap.size ≠ mb := by have := h.M.lt; omega
    have gtv : tv.ownBlock ≠ some w.heap.size := fun e => by have := (h.C.types.lt _ e).2; omega
    go_enter Tryz.func82, Tryz.ntmps82
    go_wp2_with fail
    refine (unhide V tt tv _ ((unhide Hw).trans (B0.mono hBw)) H0.C hz).mono ?_
    rintro r w2 (⟨t, tv', rfl, rfl, C2, K2⟩ | ⟨rfl, ⟨z, t, u, rfl⟩, hb2⟩)
    · have H2 := H0.of_kt C2 K2
      have D2 := (B0.mono hBw).trans K2.low
      have R2 := K2.row R0 gcb gtv
      obtain ⟨r0, r1, r2, r3, r4⟩ := row5 R2
      have KK : Kd B cb mb lv tv w lv tv' w2 := (Kd.of_all B0 hBw).trans (Kd.of_kt K2)
      clear R0 H0
      dsimp only
      by_cases ht : t = 1
      · subst ht
        go_wp2_with fail
        go_ret
        exact .inl ⟨_, _, _, _, _, (by first | rfl | exact if_pos rfl), rfl, H2, KK⟩
      · have nt : (t != 1) = true := bne_iff_ne.2 ht
        have nt2 : (t == 1) = false := beq_eq_false_iff_ne.2 ht
        have HN := hide ht
        clear ht
        have ec := (hV.below ((unhide Hw).trans D2) hB).ec
        go_wp2_with fail
        refine (unhide Hp _).mono ?_
        rintro r wp ⟨rfl, hbp⟩
        dsimp only
        go_wp2_with fail
        refine (faultAt_any i _ _ _).mono ?_
        rintro r wf ⟨⟨t', u', rfl⟩, hbf⟩
        dsimp only
        go_wp2_with fail
        go_ret
        exact .inr ⟨(by first | rfl | exact if_neg (unhide HN)), ⟨_, _, rfl⟩, (D2.trans (hbp.mono (Nat.le_trans hBw D2.size))).trans (hbf.mono (Nat.le_trans (Nat.le_trans hBw D2.size) hbp.size))⟩
    · dsimp only
      go_wp2_with fail
      go_ret
      exact .inr ⟨rfl, ⟨_, _, rfl⟩, (B0.mono hBw).trans hb2⟩

set_option maxHeartbeats 1600000 in
set_option maxRecDepth 100000 in
theorem grant_leaf (B cb mb : Nat) (ns : List ByteArray) (ts tt : List Int) (lv tv : Value) (w0 : World) (aT aN aA : Addr) (hV : Vok w0 aT) (hE : Eok w0 aN aA) (hB : w0.heap.size ≤ B) (j : Nat) (kd : Int) (nm : ByteArray) (T : TypeId) (v : Value) (i : Int) (hp : ∀ w, (method 344 T v "loop.example/s01308/impl.place").run Tryz.prog w = .ok (148, .int .i64 i) w) (gv : Value) (hg : formV gv) (ot : Option Int) (ys : List Int) (V : Hid (TyV B cb ts (.map (some mb)) lv w0 (.iface T v) ot ys)) (w : World) (hw : Below B w0 w) (h : Cm B cb mb ns ts tt lv tv w) (hz : tt.length + ys.length ≤ 4000) :
    Calls Tryz.prog 83 #[.pointer (some ⟨cb, 0, none⟩), .agg #[.int .i64 j, .int .i64 kd, .string nm, gv, .iface T v]] w (GoAns B cb mb lv tv (match ot with | some t => if t = 4 then some (ns, ts, tt ++ ys) else none | none => none) w) := by
  have hBw : B ≤ w.heap.size := by have := h.C.low; have := h.C.row.lt; omega
  have Hp := hide (fun w => (place_leaf i w).mono (R' := fun r w' => r = .returned (.int .i64 i) ∧ Below w.heap.size w w') (fun r w' ⟨h1, h2⟩ => ⟨h1, by rw [h2]; exact Below.refl _ _⟩))
  have Hw := hide hw
  clear hw
  rcases hg with rfl | ⟨tg, ug, rfl⟩
  · have B0 := (Below.refl w.heap.size w).alloc (Nat.le_refl _) (.cells #[.int .i64 j, .int .i64 kd, .string nm, .nilIface, .iface T v] 77)
    have H0 := h.below B0
    have R0 := Row.new w #[.int .i64 j, .int .i64 kd, .string nm, .nilIface, .iface T v] 77
    have gcb : w.heap.size ≠ cb := by have := h.C.row.lt; omega
    have gtv : tv.ownBlock ≠ some w.heap.size := fun e => by have := (h.C.types.lt _ e).2; omega
    go_enter Tryz.func83, Tryz.ntmps83
    go_wp2_with fail
    refine (unhide V tt tv _ ((unhide Hw).trans (B0.mono hBw)) H0.C hz).mono ?_
    rintro r w2 (⟨t, tv', rfl, rfl, C2, K2⟩ | ⟨rfl, ⟨z, t, u, rfl⟩, hb2⟩)
    · have H2 := H0.of_kt C2 K2
      have D2 := (B0.mono hBw).trans K2.low
      have R2 := K2.row R0 gcb gtv
      obtain ⟨r0, r1, r2, r3, r4⟩ := row5 R2
      have KK : Kd B cb mb lv tv w lv tv' w2 := (Kd.of_all B0 hBw).trans (Kd.of_kt K2)
      clear R0 H0
      dsimp only
      by_cases ht : t = 4
      · subst ht
        go_wp2_with fail
        go_ret
        exact .inl ⟨_, _, _, _, _, (by first | rfl | exact if_pos rfl), rfl, H2, KK⟩
      · have nt : (t != 4) = true := bne_iff_ne.2 ht
        have nt2 : (t == 4) = false := beq_eq_false_iff_ne.2 ht
        have HN := hide ht
        clear ht
        have V2 := hV.below ((unhide Hw).trans D2) hB
        have ec := V2.ec
        have el := V2.e
        have D1 : Below w2.heap.size w2 w2.drew := (Below.refl _ _).drew
        have keep : ∀ w', Below w2.heap.size w2 w' → w'.cell? ⟨w.heap.size, 4, none⟩ = some (.iface T v) ∧ w'.cell? ⟨1, 0, none⟩ = some (.iface 221 (.pointer (some aT))) := fun w' hb => ⟨(R2.after hb (Nat.le_refl _)).cell 4, (hb.cell (p := ⟨1, 0, none⟩) el).trans ec⟩
        have KP := hide keep
        have q1 := keep _ D1
        clear keep V2
        go_wp2_with fail
        go_region_held3 (fun w' => w'.cell? ⟨w.heap.size, 4, none⟩ = some (.iface T v) ∧ w'.cell? ⟨1, 0, none⟩ = some (.iface 221 (.pointer (some aT)))) (first | assumption | go_keep)
          (first
            | (go_at_call 104; refine (faultAt_any i _ _ _).mono ?_; rintro r wf ⟨⟨t', u', rfl⟩, hbf⟩; have G3 := G2.trans (hbf.mono G2.size); have q3 := unhide KP _ G3)
            | (go_at_call 148; refine (unhide Hp _).mono ?_; rintro r wp ⟨rfl, hbp⟩; have G2 := D1.trans (hbp.mono D1.size); have q2 := unhide KP _ G2))
        go_wp2_with fail
        go_ret
        exact .inr ⟨(by first | rfl | exact if_neg (unhide HN)), ⟨_, _, rfl⟩, D2.trans (G3.mono (Nat.le_trans hBw D2.size))⟩
    · dsimp only
      go_wp2_with fail
      go_ret
      exact .inr ⟨rfl, ⟨_, _, rfl⟩, (B0.mono hBw).trans hb2⟩
  · have B0 := (Below.refl w.heap.size w).alloc (Nat.le_refl _) (.cells #[.int .i64 j, .int .i64 kd, .string nm, .iface tg ug, .iface T v] 77)
    have H0 := h.below B0
    have R0 := Row.new w #[.int .i64 j, .int .i64 kd, .string nm, .iface tg ug, .iface T v] 77
    have gcb : w.heap.size ≠ cb := by have := h.C.row.lt; omega
    have gtv : tv.ownBlock ≠ some w.heap.size := fun e => by have := (h.C.types.lt _ e).2; omega
    go_enter Tryz.func83, Tryz.ntmps83
    go_wp2_with fail
    refine (unhide V tt tv _ ((unhide Hw).trans (B0.mono hBw)) H0.C hz).mono ?_
    rintro r w2 (⟨t, tv', rfl, rfl, C2, K2⟩ | ⟨rfl, ⟨z, t, u, rfl⟩, hb2⟩)
    · have H2 := H0.of_kt C2 K2
      have D2 := (B0.mono hBw).trans K2.low
      have R2 := K2.row R0 gcb gtv
      obtain ⟨r0, r1, r2, r3, r4⟩ := row5 R2
      have KK : Kd B cb mb lv tv w lv tv' w2 := (Kd.of_all B0 hBw).trans (Kd.of_kt K2)
      clear R0 H0
      dsimp only
      by_cases ht : t = 4
      · subst ht
        go_wp2_with fail
        go_ret
        exact .inl ⟨_, _, _, _, _, (by first | rfl | exact if_pos rfl), rfl, H2, KK⟩
      · have nt : (t != 4) = true := bne_iff_ne.2 ht
        have nt2 : (t == 4) = false := beq_eq_false_iff_ne.2 ht
        have HN := hide ht
        clear ht
        have V2 := hV.below ((unhide Hw).trans D2) hB
        have ec := V2.ec
        have el := V2.e
        have D1 : Below w2.heap.size w2 w2.drew := (Below.refl _ _).drew
        have keep : ∀ w', Below w2.heap.size w2 w' → w'.cell? ⟨w.heap.size, 4, none⟩ = some (.iface T v) ∧ w'.cell? ⟨1, 0, none⟩ = some (.iface 221 (.pointer (some aT))) := fun w' hb => ⟨(R2.after hb (Nat.le_refl _)).cell 4, (hb.cell (p := ⟨1, 0, none⟩) el).trans ec⟩
        have KP := hide keep
        have q1 := keep _ D1
        clear keep V2
        go_wp2_with fail
        go_region_held3 (fun w' => w'.cell? ⟨w.heap.size, 4, none⟩ = some (.iface T v) ∧ w'.cell? ⟨1, 0, none⟩ = some (.iface 221 (.pointer (some aT)))) (first | assumption | go_keep)
          (first
            | (go_at_call 104; refine (faultAt_any i _ _ _).mono ?_; rintro r wf ⟨⟨t', u', rfl⟩, hbf⟩; have G3 := G2.trans (hbf.mono G2.size); have q3 := unhide KP _ G3)
            | (go_at_call 148; refine (unhide Hp _).mono ?_; rintro r wp ⟨rfl, hbp⟩; have G2 := D1.trans (hbp.mono D1.size); have q2 := unhide KP _ G2))
        go_wp2_with fail
        go_ret
        exact .inr ⟨(by first | rfl | exact if_neg (unhide HN)), ⟨_, _, rfl⟩, D2.trans (G3.mono (Nat.le_trans hBw D2.size))⟩
    · dsimp only
      go_wp2_with fail
      go_ret
      exact .inr ⟨rfl, ⟨_, _, rfl⟩, (B0.mono hBw).trans hb2⟩

open Classical in
set_option maxHeartbeats 1600000 in
set_option maxRecDepth 100000 in
theorem condition_let_un (B cb mb : Nat) (ns : List ByteArray) (ts tt : List Int) (lv tv : Value) (w0 : World) (aT aN aA : Addr) (hV : Vok w0 aT) (hE : Eok w0 aN aA) (hB : w0.heap.size ≤ B) (j : Nat) (nm : ByteArray) (i op : Int) (t1 : TypeId) (u1 : Value) (gv : Value) (hg : formV gv) (ot : Option Int) (ys : List Int) (V : Hid (TyV B cb ts (.map (some mb)) lv w0 (.iface 156 (.agg #[.int .i64 i, .int .i64 op, .iface t1 u1])) ot ys)) (w : World) (hw : Below B w0 w) (h : Cm B cb mb ns ts tt lv tv w) (hz : tt.length + ys.length ≤ 4000) (hl : ts.length ≤ 1000) :
    Calls Tryz.prog 82 #[.pointer (some ⟨cb, 0, none⟩), .agg #[.int .i64 j, .int .i64 1, .string nm, .iface 156 (.agg #[.int .i64 i, .int .i64 op, .iface t1 u1]), gv]] w (GoAns B cb mb lv tv (match ot with | some t => if nm ∈ ns then none else some (ns ++ [nm], ts ++ [t], tt ++ ys) | none => none) w) := by
  have hBw : B ≤ w.heap.size := by have := h.C.low; have := h.C.row.lt; omega
  have hp := place_un i op t1 u1
  have Hp := hide (place_of_un i op t1 u1)
  have Hw := hide hw
  clear hw
  rcases hg with rfl | ⟨tg, ug, rfl⟩
  · have B0 := (Below.refl w.heap.size w).alloc (Nat.le_refl _) (.cells #[.int .i64 j, .int .i64 1, .string nm, .iface 156 (.agg #[.int .i64 i, .int .i64 op, .iface t1 u1]), .nilIface] 77)
    have H0 := h.below B0
    have R0 := Row.new w #[.int .i64 j, .int .i64 1, .string nm, .iface 156 (.agg #[.int .i64 i, .int .i64 op, .iface t1 u1]), .nilIface] 77
    have zw : (w.alloc (.cells #[.int .i64 j, .int .i64 1, .string nm, .iface 156 (.agg #[.int .i64 i, .int .i64 op, .iface t1 u1]), .nilIface] 77)).heap.size = w.heap.size + 1 := by simp
    have gcb : w.heap.size ≠ cb := by have := h.C.row.lt; omega
    have gmb : w.heap.size ≠ mb := by have := h.M.lt; omega
    have gtv : tv.ownBlock ≠ some w.heap.size := fun e => by have := (h.C.types.lt _ e).2; omega
    go_enter Tryz.func82, Tryz.ntmps82
    go_wp2_with fail
    refine (unhide V tt tv _ ((unhide Hw).trans (B0.mono hBw)) H0.C hz).mono ?_
    rintro r w2 (⟨t, tv', rfl, rfl, C2, K2⟩ | ⟨rfl, ⟨z, t, u, rfl⟩, hb2⟩)
    · have H2 := H0.of_kt C2 K2
      have D2 := (B0.mono hBw).trans K2.low
      have R2 := K2.row R0 gcb gtv
      obtain ⟨r0, r1, r2, r3, r4⟩ := row5 R2
      have KK : Kd B cb mb lv tv w lv tv' w2 := (Kd.of_all B0 hBw).trans (Kd.of_kt K2)
      clear R0 H0
      dsimp only
      go_wp2_with fail
      refine (declare_any B cb mb ns ts _ lv tv' nm t aN aA w2 (hE.below ((unhide Hw).trans D2) hB) H2 hl).mono ?_
      rintro r w3 (⟨hn, rfl, lv', H3, K3⟩ | ⟨hn, ⟨te, ue, rfl⟩, hb3⟩)
      · have HN := hide hn
        clear hn
        dsimp only
        go_wp2_with fail
        go_ret
        exact .inl ⟨_, _, _, _, _, (by first | rfl | exact if_neg (unhide HN)), rfl, H3, KK.trans K3⟩
      · have HN := hide hn
        clear hn
        have D3 := D2.trans (hb3.mono (Nat.le_trans hBw D2.size))
        obtain ⟨s0, s1, s2, s3, s4⟩ := row5 (R2.after hb3 (Nat.le_refl _))
        dsimp only
        go_wp2_with fail
        refine (unhide Hp _).mono ?_
        rintro r wp ⟨rfl, hbp⟩
        dsimp only
        go_wp2_with fail
        refine (faultAt_any i _ _ _).mono ?_
        rintro r wf ⟨⟨t', u', rfl⟩, hbf⟩
        dsimp only
        go_wp2_with fail
        go_ret
        exact .inr ⟨(by first | rfl | exact if_pos (unhide HN)), ⟨_, _, rfl⟩, (D3.trans (hbp.mono (Nat.le_trans hBw D3.size))).trans (hbf.mono (Nat.le_trans (Nat.le_trans hBw D3.size) hbp.size))⟩
    · dsimp only
      go_wp2_with fail
      go_ret
      exact .inr ⟨rfl, ⟨_, _, rfl⟩, (B0.mono hBw).trans hb2⟩
  · have B0 := (Below.refl w.heap.size w).alloc (Nat.le_refl _) (.cells #[.int .i64 j, .int .i64 1, .string nm, .iface 156 (.agg #[.int .i64 i, .int .i64 op, .iface t1 u1]), .iface tg ug] 77)
    have H0 := h.below B0
    have R0 := Row.new w #[.int .i64 j, .int .i64 1, .string nm, .iface 156 (.agg #[.int .i64 i, .int .i64 op, .iface t1 u1]), .iface tg ug] 77
    have zw : (w.alloc (.cells #[.int .i64 j, .int .i64 1, .string nm, .iface 156 (.agg #[.int .i64 i, .int .i64 op, .iface t1 u1]), .iface tg ug] 77)).heap.size = w.heap.size + 1 := by simp
    have gcb : w.heap.size ≠ cb := by have := h.C.row.lt; omega
    have gmb : w.heap.size ≠ mb := by have := h.M.lt; omega
    have gtv : tv.ownBlock ≠ some w.heap.size := fun e => by have := (h.C.types.lt _ e).2; omega
    go_enter Tryz.func82, Tryz.ntmps82
    go_wp2_with fail
    refine (unhide V tt tv _ ((unhide Hw).trans (B0.mono hBw)) H0.C hz).mono ?_
    rintro r w2 (⟨t, tv', rfl, rfl, C2, K2⟩ | ⟨rfl, ⟨z, t, u, rfl⟩, hb2⟩)
    · have H2 := H0.of_kt C2 K2
      have D2 := (B0.mono hBw).trans K2.low
      have R2 := K2.row R0 gcb gtv
      obtain ⟨r0, r1, r2, r3, r4⟩ := row5 R2
      have KK : Kd B cb mb lv tv w lv tv' w2 := (Kd.of_all B0 hBw).trans (Kd.of_kt K2)
      clear R0 H0
      dsimp only
      go_wp2_with fail
      refine (declare_any B cb mb ns ts _ lv tv' nm t aN aA w2 (hE.below ((unhide Hw).trans D2) hB) H2 hl).mono ?_
      rintro r w3 (⟨hn, rfl, lv', H3, K3⟩ | ⟨hn, ⟨te, ue, rfl⟩, hb3⟩)
      · have HN := hide hn
        clear hn
        dsimp only
        go_wp2_with fail
        go_ret
        exact .inl ⟨_, _, _, _, _, (by first | rfl | exact if_neg (unhide HN)), rfl, H3, KK.trans K3⟩
      · have HN := hide hn
        clear hn
        have D3 := D2.trans (hb3.mono (Nat.le_trans hBw D2.size))
        obtain ⟨s0, s1, s2, s3, s4⟩ := row5 (R2.after hb3 (Nat.le_refl _))
        dsimp only
        go_wp2_with fail
        refine (unhide Hp _).mono ?_
        rintro r wp ⟨rfl, hbp⟩
        dsimp only
        go_wp2_with fail
        refine (faultAt_any i _ _ _).mono ?_
        rintro r wf ⟨⟨t', u', rfl⟩, hbf⟩
        dsimp only
        go_wp2_with fail
        go_ret
        exact .inr ⟨(by first | rfl | exact if_pos (unhide HN)), ⟨_, _, rfl⟩, (D3.trans (hbp.mono (Nat.le_trans hBw D3.size))).trans (hbf.mono (Nat.le_trans (Nat.le_trans hBw D3.size) hbp.size))⟩
    · dsimp only
      go_wp2_with fail
      go_ret
      exact .inr ⟨rfl, ⟨_, _, rfl⟩, (B0.mono hBw).trans hb2⟩

open Classical in
set_option maxHeartbeats 1600000 in
set_option maxRecDepth 100000 in
theorem condition_when_un (B cb mb : Nat) (ns : List ByteArray) (ts tt : List Int) (lv tv : Value) (w0 : World) (aT aN aA : Addr) (hV : Vok w0 aT) (hE : Eok w0 aN aA) (hB : w0.heap.size ≤ B) (j : Nat) (kd : Int) (hk : (kd == 1) = false) (nm : ByteArray) (i op : Int) (t1 : TypeId) (u1 : Value) (gv : Value) (hg : formV gv) (ot : Option Int) (ys : List Int) (V : Hid (TyV B cb ts (.map (some mb)) lv w0 (.iface 156 (.agg #[.int .i64 i, .int .i64 op, .iface t1 u1])) ot ys)) (w : World) (hw : Below B w0 w) (h : Cm B cb mb ns ts tt lv tv w) (hz : tt.length + ys.length ≤ 4000) (hl : ts.length ≤ 1000) :
    Calls Tryz.prog 82 #[.pointer (some ⟨cb, 0, none⟩), .agg #[.int .i64 j, .int .i64 kd, .string nm, .iface 156 (.agg #[.int .i64 i, .int .i64 op, .iface t1 u1]), gv]] w (GoAns B cb mb lv tv (match ot with | some t => if t = 1 then some (ns, ts, tt ++ ys) else none | none => none) w) := by
  have hBw : B ≤ w.heap.size := by have := h.C.low; have := h.C.row.lt; omega
  have hp := place_un i op t1 u1
  have Hp := hide (place_of_un i op t1 u1)
  have Hw := hide hw
  clear hw
  rcases hg with rfl | ⟨tg, ug, rfl⟩
  · have B0 := (Below.refl w.heap.size w).alloc (Nat.le_refl _) (.cells #[.int .i64 j, .int .i64 kd, .string nm, .iface 156 (.agg #[.int .i64 i, .int .i64 op, .iface t1 u1]), .nilIface] 77)
    have H0 := h.below B0
    have R0 := Row.new w #[.int .i64 j, .int .i64 kd, .string nm, .iface 156 (.agg #[.int .i64 i, .int .i64 op, .iface t1 u1]), .nilIface] 77
    have zw : (w.alloc (.cells #[.int .i64 j, .int .i64 kd, .string nm, .iface 156 (.agg #[.int .i64 i, .int .i64 op, .iface t1 u1]), .nilIface] 77)).heap.size = w.heap.size + 1 := by simp
    have gcb : w.heap.size ≠ cb := by have := h.C.row.lt; omega
    have gmb : w.heap.size ≠ mb := by have := h.M.lt; omega
    have gtv : tv.ownBlock ≠ some w.heap.size := fun e => by have := (h.C.types.lt _ e).2; omega
    go_enter Tryz.func82, Tryz.ntmps82
    go_wp2_with fail
    refine (unhide V tt tv _ ((unhide Hw).trans (B0.mono hBw)) H0.C hz).mono ?_
    rintro r w2 (⟨t, tv', rfl, rfl, C2, K2⟩ | ⟨rfl, ⟨z, t, u, rfl⟩, hb2⟩)
    · have H2 := H0.of_kt C2 K2
      have D2 := (B0.mono hBw).trans K2.low
      have R2 := K2.row R0 gcb gtv
      obtain ⟨r0, r1, r2, r3, r4⟩ := row5 R2
      have KK : Kd B cb mb lv tv w lv tv' w2 := (Kd.of_all B0 hBw).trans (Kd.of_kt K2)
      clear R0 H0
      dsimp only
      by_cases ht : t = 1
      · subst ht
        go_wp2_with fail
        go_ret
        exact .inl ⟨_, _, _, _, _, (by first | rfl | exact if_pos rfl), rfl, H2, KK⟩
      · have nt : (t != 1) = true := bne_iff_ne.2 ht
        have nt2 : (t == 1) = false := beq_eq_false_iff_ne.2 ht
        have HN := hide ht
        clear ht
        have ec := (hV.below ((unhide Hw).trans D2) hB).ec
        go_wp2_with fail
        refine (unhide Hp _).mono ?_
        rintro r wp ⟨rfl, hbp⟩
        dsimp only
        go_wp2_with fail
        refine (faultAt_any i _ _ _).mono ?_
        rintro r wf ⟨⟨t', u', rfl⟩, hbf⟩
        dsimp only
        go_wp2_with fail
        go_ret
        exact .inr ⟨(by first | rfl | exact if_neg (unhide HN)), ⟨_, _, rfl⟩, (D2.trans (hbp.mono (Nat.le_trans hBw D2.size))).trans (hbf.mono (Nat.le_trans (Nat.le_trans hBw D2.size) hbp.size))⟩
    · dsimp only
      go_wp2_with fail
      go_ret
      exact .inr ⟨rfl, ⟨_, _, rfl⟩, (B0.mono hBw).trans hb2⟩
  · have B0 := (Below.refl w.heap.size w).alloc (Nat.le_refl _) (.cells #[.int .i64 j, .int .i64 kd, .string nm, .iface 156 (.agg #[.int .i64 i, .int .i64 op, .iface t1 u1]), .iface tg ug] 77)
    have H0 := h.below B0
    have R0 := Row.new w #[.int .i64 j, .int .i64 kd, .string nm, .iface 156 (.agg #[.int .i64 i, .int .i64 op, .iface t1 u1]), .iface tg ug] 77
    have zw : (w.alloc (.cells #[.int .i64 j, .int .i64 kd, .string nm, .iface 156 (.agg #[.int .i64 i, .int .i64 op, .iface t1 u1]), .iface tg ug] 77)).heap.size = w.heap.size + 1 := by simp
    have gcb : w.heap.size ≠ cb := by have := h.C.row.lt; omega
    have gmb : w.heap.size ≠ mb := by have := h.M.lt; omega
    have gtv : tv.ownBlock ≠ some w.heap.size := fun e => by have := (h.C.types.lt _ e).2; omega
    go_enter Tryz.func82, Tryz.ntmps82
    go_wp2_with fail
    refine (unhide V tt tv _ ((unhide Hw).trans (B0.mono hBw)) H0.C hz).mono ?_
    rintro r w2 (⟨t, tv', rfl, rfl, C2, K2⟩ | ⟨rfl, ⟨z, t, u, rfl⟩, hb2⟩)
    · have H2 := H0.of_kt C2 K2
      have D2 := (B0.mono hBw).trans K2.low
      have R2 := K2.row R0 gcb gtv
      obtain ⟨r0, r1, r2, r3, r4⟩ := row5 R2
      have KK : Kd B cb mb lv tv w lv tv' w2 := (Kd.of_all B0 hBw).trans (Kd.of_kt K2)
      clear R0 H0
      dsimp only
      by_cases ht : t = 1
      · subst ht
        go_wp2_with fail
        go_ret
        exact .inl ⟨_, _, _, _, _, (by first | rfl | exact if_pos rfl), rfl, H2, KK⟩
      · have nt : (t != 1) = true := bne_iff_ne.2 ht
        have nt2 : (t == 1) = false := beq_eq_false_iff_ne.2 ht
        have HN := hide ht
        clear ht
        have ec := (hV.below ((unhide Hw).trans D2) hB).ec
        go_wp2_with fail
        refine (unhide Hp _).mono ?_
        rintro r wp ⟨rfl, hbp⟩
        dsimp only
        go_wp2_with fail
        refine (faultAt_any i _ _ _).mono ?_
        rintro r wf ⟨⟨t', u', rfl⟩, hbf⟩
        dsimp only
        go_wp2_with fail
        go_ret
        exact .inr ⟨(by first | rfl | exact if_neg (unhide HN)), ⟨_, _, rfl⟩, (D2.trans (hbp.mono (Nat.le_trans hBw D2.size))).trans (hbf.mono (Nat.le_trans (Nat.le_trans hBw D2.size) hbp.size))⟩
    · dsimp only
      go_wp2_with fail
      go_ret
      exact .inr ⟨rfl, ⟨_, _, rfl⟩, (B0.mono hBw).trans hb2⟩

set_option maxHeartbeats 1600000 in
set_option maxRecDepth 100000 in
theorem grant_un (B cb mb : Nat) (ns : List ByteArray) (ts tt : List Int) (lv tv : Value) (w0 : World) (aT aN aA : Addr) (hV : Vok w0 aT) (hE : Eok w0 aN aA) (hB : w0.heap.size ≤ B) (j : Nat) (kd : Int) (nm : ByteArray) (i op : Int) (t1 : TypeId) (u1 : Value) (gv : Value) (hg : formV gv) (ot : Option Int) (ys : List Int) (V : Hid (TyV B cb ts (.map (some mb)) lv w0 (.iface 156 (.agg #[.int .i64 i, .int .i64 op, .iface t1 u1])) ot ys)) (w : World) (hw : Below B w0 w) (h : Cm B cb mb ns ts tt lv tv w) (hz : tt.length + ys.length ≤ 4000) :
    Calls Tryz.prog 83 #[.pointer (some ⟨cb, 0, none⟩), .agg #[.int .i64 j, .int .i64 kd, .string nm, gv, .iface 156 (.agg #[.int .i64 i, .int .i64 op, .iface t1 u1])]] w (GoAns B cb mb lv tv (match ot with | some t => if t = 4 then some (ns, ts, tt ++ ys) else none | none => none) w) := by
  have hBw : B ≤ w.heap.size := by have := h.C.low; have := h.C.row.lt; omega
  have hp := place_un i op t1 u1
  have Hp := hide (place_of_un i op t1 u1)
  have Hw := hide hw
  clear hw
  rcases hg with rfl | ⟨tg, ug, rfl⟩
  · have B0 := (Below.refl w.heap.size w).alloc (Nat.le_refl _) (.cells #[.int .i64 j, .int .i64 kd, .string nm, .nilIface, .iface 156 (.agg #[.int .i64 i, .int .i64 op, .iface t1 u1])] 77)
    have H0 := h.below B0
    have R0 := Row.new w #[.int .i64 j, .int .i64 kd, .string nm, .nilIface, .iface 156 (.agg #[.int .i64 i, .int .i64 op, .iface t1 u1])] 77
    have gcb : w.heap.size ≠ cb := by have := h.C.row.lt; omega
    have gtv : tv.ownBlock ≠ some w.heap.size := fun e => by have := (h.C.types.lt _ e).2; omega
    go_enter Tryz.func83, Tryz.ntmps83
    go_wp2_with fail
    refine (unhide V tt tv _ ((unhide Hw).trans (B0.mono hBw)) H0.C hz).mono ?_
    rintro r w2 (⟨t, tv', rfl, rfl, C2, K2⟩ | ⟨rfl, ⟨z, t, u, rfl⟩, hb2⟩)
    · have H2 := H0.of_kt C2 K2
      have D2 := (B0.mono hBw).trans K2.low
      have R2 := K2.row R0 gcb gtv
      obtain ⟨r0, r1, r2, r3, r4⟩ := row5 R2
      have KK : Kd B cb mb lv tv w lv tv' w2 := (Kd.of_all B0 hBw).trans (Kd.of_kt K2)
      clear R0 H0
      dsimp only
      by_cases ht : t = 4
      · subst ht
        go_wp2_with fail
        go_ret
        exact .inl ⟨_, _, _, _, _, (by first | rfl | exact if_pos rfl), rfl, H2, KK⟩
      · have nt : (t != 4) = true := bne_iff_ne.2 ht
        have nt2 : (t == 4) = false := beq_eq_false_iff_ne.2 ht
        have HN := hide ht
        clear ht
        have V2 := hV.below ((unhide Hw).trans D2) hB
        have ec := V2.ec
        have el := V2.e
        have D1 : Below w2.heap.size w2 w2.drew := (Below.refl _ _).drew
        have keep : ∀ w', Below w2.heap.size w2 w' → w'.cell? ⟨w.heap.size, 4, none⟩ = some (.iface 156 (.agg #[.int .i64 i, .int .i64 op, .iface t1 u1])) ∧ w'.cell? ⟨1, 0, none⟩ = some (.iface 221 (.pointer (some aT))) := fun w' hb => ⟨(R2.after hb (Nat.le_refl _)).cell 4, (hb.cell (p := ⟨1, 0, none⟩) el).trans ec⟩
        have KP := hide keep
        have q1 := keep _ D1
        clear keep V2
        go_wp2_with fail
        go_region_held3 (fun w' => w'.cell? ⟨w.heap.size, 4, none⟩ = some (.iface 156 (.agg #[.int .i64 i, .int .i64 op, .iface t1 u1])) ∧ w'.cell? ⟨1, 0, none⟩ = some (.iface 221 (.pointer (some aT)))) (first | assumption | go_keep)
          (first
            | (go_at_call 104; refine (faultAt_any i _ _ _).mono ?_; rintro r wf ⟨⟨t', u', rfl⟩, hbf⟩; have G3 := G2.trans (hbf.mono G2.size); have q3 := unhide KP _ G3)
            | (go_at_call 150; refine (unhide Hp _).mono ?_; rintro r wp ⟨rfl, hbp⟩; have G2 := D1.trans (hbp.mono D1.size); have q2 := unhide KP _ G2))
        go_wp2_with fail
        go_ret
        exact .inr ⟨(by first | rfl | exact if_neg (unhide HN)), ⟨_, _, rfl⟩, D2.trans (G3.mono (Nat.le_trans hBw D2.size))⟩
    · dsimp only
      go_wp2_with fail
      go_ret
      exact .inr ⟨rfl, ⟨_, _, rfl⟩, (B0.mono hBw).trans hb2⟩
  · have B0 := (Below.refl w.heap.size w).alloc (Nat.le_refl _) (.cells #[.int .i64 j, .int .i64 kd, .string nm, .iface tg ug, .iface 156 (.agg #[.int .i64 i, .int .i64 op, .iface t1 u1])] 77)
    have H0 := h.below B0
    have R0 := Row.new w #[.int .i64 j, .int .i64 kd, .string nm, .iface tg ug, .iface 156 (.agg #[.int .i64 i, .int .i64 op, .iface t1 u1])] 77
    have gcb : w.heap.size ≠ cb := by have := h.C.row.lt; omega
    have gtv : tv.ownBlock ≠ some w.heap.size := fun e => by have := (h.C.types.lt _ e).2; omega
    go_enter Tryz.func83, Tryz.ntmps83
    go_wp2_with fail
    refine (unhide V tt tv _ ((unhide Hw).trans (B0.mono hBw)) H0.C hz).mono ?_
    rintro r w2 (⟨t, tv', rfl, rfl, C2, K2⟩ | ⟨rfl, ⟨z, t, u, rfl⟩, hb2⟩)
    · have H2 := H0.of_kt C2 K2
      have D2 := (B0.mono hBw).trans K2.low
      have R2 := K2.row R0 gcb gtv
      obtain ⟨r0, r1, r2, r3, r4⟩ := row5 R2
      have KK : Kd B cb mb lv tv w lv tv' w2 := (Kd.of_all B0 hBw).trans (Kd.of_kt K2)
      clear R0 H0
      dsimp only
      by_cases ht : t = 4
      · subst ht
        go_wp2_with fail
        go_ret
        exact .inl ⟨_, _, _, _, _, (by first | rfl | exact if_pos rfl), rfl, H2, KK⟩
      · have nt : (t != 4) = true := bne_iff_ne.2 ht
        have nt2 : (t == 4) = false := beq_eq_false_iff_ne.2 ht
        have HN := hide ht
        clear ht
        have V2 := hV.below ((unhide Hw).trans D2) hB
        have ec := V2.ec
        have el := V2.e
        have D1 : Below w2.heap.size w2 w2.drew := (Below.refl _ _).drew
        have keep : ∀ w', Below w2.heap.size w2 w' → w'.cell? ⟨w.heap.size, 4, none⟩ = some (.iface 156 (.agg #[.int .i64 i, .int .i64 op, .iface t1 u1])) ∧ w'.cell? ⟨1, 0, none⟩ = some (.iface 221 (.pointer (some aT))) := fun w' hb => ⟨(R2.after hb (Nat.le_refl _)).cell 4, (hb.cell (p := ⟨1, 0, none⟩) el).trans ec⟩
        have KP := hide keep
        have q1 := keep _ D1
        clear keep V2
        go_wp2_with fail
        go_region_held3 (fun w' => w'.cell? ⟨w.heap.size, 4, none⟩ = some (.iface 156 (.agg #[.int .i64 i, .int .i64 op, .iface t1 u1])) ∧ w'.cell? ⟨1, 0, none⟩ = some (.iface 221 (.pointer (some aT)))) (first | assumption | go_keep)
          (first
            | (go_at_call 104; refine (faultAt_any i _ _ _).mono ?_; rintro r wf ⟨⟨t', u', rfl⟩, hbf⟩; have G3 := G2.trans (hbf.mono G2.size); have q3 := unhide KP _ G3)
            | (go_at_call 150; refine (unhide Hp _).mono ?_; rintro r wp ⟨rfl, hbp⟩; have G2 := D1.trans (hbp.mono D1.size); have q2 := unhide KP _ G2))
        go_wp2_with fail
        go_ret
        exact .inr ⟨(by first | rfl | exact if_neg (unhide HN)), ⟨_, _, rfl⟩, D2.trans (G3.mono (Nat.le_trans hBw D2.size))⟩
    · dsimp only
      go_wp2_with fail
      go_ret
      exact .inr ⟨rfl, ⟨_, _, rfl⟩, (B0.mono hBw).trans hb2⟩

open Classical in
set_option maxHeartbeats 1600000 in
set_option maxRecDepth 100000 in
theorem condition_let_bin (B cb mb : Nat) (ns : List ByteArray) (ts tt : List Int) (lv tv : Value) (w0 : World) (aT aN aA : Addr) (hV : Vok w0 aT) (hE : Eok w0 aN aA) (hB : w0.heap.size ≤ B) (j : Nat) (nm : ByteArray) (i op : Int) (t1 : TypeId) (u1 : Value) (t2 : TypeId) (u2 : Value) (gv : Value) (hg : formV gv) (ot : Option Int) (ys : List Int) (V : Hid (TyV B cb ts (.map (some mb)) lv w0 (.iface 158 (.agg #[.int .i64 i, .int .i64 op, .iface t1 u1, .iface t2 u2])) ot ys)) (w : World) (hw : Below B w0 w) (h : Cm B cb mb ns ts tt lv tv w) (hz : tt.length + ys.length ≤ 4000) (hl : ts.length ≤ 1000) :
    Calls Tryz.prog 82 #[.pointer (some ⟨cb, 0, none⟩), .agg #[.int .i64 j, .int .i64 1, .string nm, .iface 158 (.agg #[.int .i64 i, .int .i64 op, .iface t1 u1, .iface t2 u2]), gv]] w (GoAns B cb mb lv tv (match ot with | some t => if nm ∈ ns then none else some (ns ++ [nm], ts ++ [t], tt ++ ys) | none => none) w) := by
  have hBw : B ≤ w.heap.size := by have := h.C.low; have := h.C.row.lt; omega
  have hp := place_bin i op t1 u1 t2 u2
  have Hp := hide (place_of_bin i op t1 u1 t2 u2)
  have Hw := hide hw
  clear hw
  rcases hg with rfl | ⟨tg, ug, rfl⟩
  · have B0 := (Below.refl w.heap.size w).alloc (Nat.le_refl _) (.cells #[.int .i64 j, .int .i64 1, .string nm, .iface 158 (.agg #[.int .i64 i, .int .i64 op, .iface t1 u1, .iface t2 u2]), .nilIface] 77)
    have H0 := h.below B0
    have R0 := Row.new w #[.int .i64 j, .int .i64 1, .string nm, .iface 158 (.agg #[.int .i64 i, .int .i64 op, .iface t1 u1, .iface t2 u2]), .nilIface] 77
    have zw : (w.alloc (.cells #[.int .i64 j, .int .i64 1, .string nm, .iface 158 (.agg #[.int .i64 i, .int .i64 op, .iface t1 u1, .iface t2 u2]), .nilIface] 77)).heap.size = w.heap.size + 1 := by simp
    have gcb : w.heap.size ≠ cb := by have := h.C.row.lt; omega
    have gmb : w.heap.size ≠ mb := by have := h.M.lt; omega
    have gtv : tv.ownBlock ≠ some w.heap.size := fun e => by have := (h.C.types.lt _ e).2; omega
    go_enter Tryz.func82, Tryz.ntmps82
    go_wp2_with fail
    refine (unhide V tt tv _ ((unhide Hw).trans (B0.mono hBw)) H0.C hz).mono ?_
    rintro r w2 (⟨t, tv', rfl, rfl, C2, K2⟩ | ⟨rfl, ⟨z, t, u, rfl⟩, hb2⟩)
    · have H2 := H0.of_kt C2 K2
      have D2 := (B0.mono hBw).trans K2.low
      have R2 := K2.row R0 gcb gtv
      obtain ⟨r0, r1, r2, r3, r4⟩ := row5 R2
      have KK : Kd B cb mb lv tv w lv tv' w2 := (Kd.of_all B0 hBw).trans (Kd.of_kt K2)
      clear R0 H0
      dsimp only
      go_wp2_with fail
      refine (declare_any B cb mb ns ts _ lv tv' nm t aN aA w2 (hE.below ((unhide Hw).trans D2) hB) H2 hl).mono ?_
      rintro r w3 (⟨hn, rfl, lv', H3, K3⟩ | ⟨hn, ⟨te, ue, rfl⟩, hb3⟩)
      · have HN := hide hn
        clear hn
        dsimp only
        go_wp2_with fail
        go_ret
        exact .inl ⟨_, _, _, _, _, (by first | rfl | exact if_neg (unhide HN)), rfl, H3, KK.trans K3⟩
      · have HN := hide hn
        clear hn
        have D3 := D2.trans (hb3.mono (Nat.le_trans hBw D2.size))
        obtain ⟨s0, s1, s2, s3, s4⟩ := row5 (R2.after hb3 (Nat.le_refl _))
        dsimp only
        go_wp2_with fail
        refine (unhide Hp _).mono ?_
        rintro r wp ⟨rfl, hbp⟩
        dsimp only
        go_wp2_with fail
        refine (faultAt_any i _ _ _).mono ?_
        rintro r wf ⟨⟨t', u', rfl⟩, hbf⟩
        dsimp only
        go_wp2_with fail
        go_ret
        exact .inr ⟨(by first | rfl | exact if_pos (unhide HN)), ⟨_, _, rfl⟩, (D3.trans (hbp.mono (Nat.le_trans hBw D3.size))).trans (hbf.mono (Nat.le_trans (Nat.le_trans hBw D3.size) hbp.size))⟩
    · dsimp only
      go_wp2_with fail
      go_ret
      exact .inr ⟨rfl, ⟨_, _, rfl⟩, (B0.mono hBw).trans hb2⟩
  · have B0 := (Below.refl w.heap.size w).alloc (Nat.le_refl _) (.cells #[.int .i64 j, .int .i64 1, .string nm, .iface 158 (.agg #[.int .i64 i, .int .i64 op, .iface t1 u1, .iface t2 u2]), .iface tg ug] 77)
    have H0 := h.below B0
    have R0 := Row.new w #[.int .i64 j, .int .i64 1, .string nm, .iface 158 (.agg #[.int .i64 i, .int .i64 op, .iface t1 u1, .iface t2 u2]), .iface tg ug] 77
    have zw : (w.alloc (.cells #[.int .i64 j, .int .i64 1, .string nm, .iface 158 (.agg #[.int .i64 i, .int .i64 op, .iface t1 u1, .iface t2 u2]), .iface tg ug] 77)).heap.size = w.heap.size + 1 := by simp
    have gcb : w.heap.size ≠ cb := by have := h.C.row.lt; omega
    have gmb : w.heap.size ≠ mb := by have := h.M.lt; omega
    have gtv : tv.ownBlock ≠ some w.heap.size := fun e => by have := (h.C.types.lt _ e).2; omega
    go_enter Tryz.func82, Tryz.ntmps82
    go_wp2_with fail
    refine (unhide V tt tv _ ((unhide Hw).trans (B0.mono hBw)) H0.C hz).mono ?_
    rintro r w2 (⟨t, tv', rfl, rfl, C2, K2⟩ | ⟨rfl, ⟨z, t, u, rfl⟩, hb2⟩)
    · have H2 := H0.of_kt C2 K2
      have D2 := (B0.mono hBw).trans K2.low
      have R2 := K2.row R0 gcb gtv
      obtain ⟨r0, r1, r2, r3, r4⟩ := row5 R2
      have KK : Kd B cb mb lv tv w lv tv' w2 := (Kd.of_all B0 hBw).trans (Kd.of_kt K2)
      clear R0 H0
      dsimp only
      go_wp2_with fail
      refine (declare_any B cb mb ns ts _ lv tv' nm t aN aA w2 (hE.below ((unhide Hw).trans D2) hB) H2 hl).mono ?_
      rintro r w3 (⟨hn, rfl, lv', H3, K3⟩ | ⟨hn, ⟨te, ue, rfl⟩, hb3⟩)
      · have HN := hide hn
        clear hn
        dsimp only
        go_wp2_with fail
        go_ret
        exact .inl ⟨_, _, _, _, _, (by first | rfl | exact if_neg (unhide HN)), rfl, H3, KK.trans K3⟩
      · have HN := hide hn
        clear hn
        have D3 := D2.trans (hb3.mono (Nat.le_trans hBw D2.size))
        obtain ⟨s0, s1, s2, s3, s4⟩ := row5 (R2.after hb3 (Nat.le_refl _))
        dsimp only
        go_wp2_with fail
        refine (unhide Hp _).mono ?_
        rintro r wp ⟨rfl, hbp⟩
        dsimp only
        go_wp2_with fail
        refine (faultAt_any i _ _ _).mono ?_
        rintro r wf ⟨⟨t', u', rfl⟩, hbf⟩
        dsimp only
        go_wp2_with fail
        go_ret
        exact .inr ⟨(by first | rfl | exact if_pos (unhide HN)), ⟨_, _, rfl⟩, (D3.trans (hbp.mono (Nat.le_trans hBw D3.size))).trans (hbf.mono (Nat.le_trans (Nat.le_trans hBw D3.size) hbp.size))⟩
    · dsimp only
      go_wp2_with fail
      go_ret
      exact .inr ⟨rfl, ⟨_, _, rfl⟩, (B0.mono hBw).trans hb2⟩

open Classical in
set_option maxHeartbeats 1600000 in
set_option maxRecDepth 100000 in
theorem condition_when_bin (B cb mb : Nat) (ns : List ByteArray) (ts tt : List Int) (lv tv : Value) (w0 : World) (aT aN aA : Addr) (hV : Vok w0 aT) (hE : Eok w0 aN aA) (hB : w0.heap.size ≤ B) (j : Nat) (kd : Int) (hk : (kd == 1) = false) (nm : ByteArray) (i op : Int) (t1 : TypeId) (u1 : Value) (t2 : TypeId) (u2 : Value) (gv : Value) (hg : formV gv) (ot : Option Int) (ys : List Int) (V : Hid (TyV B cb ts (.map (some mb)) lv w0 (.iface 158 (.agg #[.int .i64 i, .int .i64 op, .iface t1 u1, .iface t2 u2])) ot ys)) (w : World) (hw : Below B w0 w) (h : Cm B cb mb ns ts tt lv tv w) (hz : tt.length + ys.length ≤ 4000) (hl : ts.length ≤ 1000) :
    Calls Tryz.prog 82 #[.pointer (some ⟨cb, 0, none⟩), .agg #[.int .i64 j, .int .i64 kd, .string nm, .iface 158 (.agg #[.int .i64 i, .int .i64 op, .iface t1 u1, .iface t2 u2]), gv]] w (GoAns B cb mb lv tv (match ot with | some t => if t = 1 then some (ns, ts, tt ++ ys) else none | none => none) w) := by
  have hBw : B ≤ w.heap.size := by have := h.C.low; have := h.C.row.lt; omega
  have hp := place_bin i op t1 u1 t2 u2
  have Hp := hide (place_of_bin i op t1 u1 t2 u2)
  have Hw := hide hw
  clear hw
  rcases hg with rfl | ⟨tg, ug, rfl⟩
  · have B0 := (Below.refl w.heap.size w).alloc (Nat.le_refl _) (.cells #[.int .i64 j, .int .i64 kd, .string nm, .iface 158 (.agg #[.int .i64 i, .int .i64 op, .iface t1 u1, .iface t2 u2]), .nilIface] 77)
    have H0 := h.below B0
    have R0 := Row.new w #[.int .i64 j, .int .i64 kd, .string nm, .iface 158 (.agg #[.int .i64 i, .int .i64 op, .iface t1 u1, .iface t2 u2]), .nilIface] 77
    have zw : (w.alloc (.cells #[.int .i64 j, .int .i64 kd, .string nm, .iface 158 (.agg #[.int .i64 i, .int .i64 op, .iface t1 u1, .iface t2 u2]), .nilIface] 77)).heap.size = w.heap.size + 1 := by simp
    have gcb : w.heap.size ≠ cb := by have := h.C.row.lt; omega
    have gmb : w.heap.size ≠ mb := by have := h.M.lt; omega
    have gtv : tv.ownBlock ≠ some w.heap.size := fun e => by have := (h.C.types.lt _ e).2; omega
    go_enter Tryz.func82, Tryz.ntmps82
    go_wp2_with fail
    refine (unhide V tt tv _ ((unhide Hw).trans (B0.mono hBw)) H0.C hz).mono ?_
    rintro r w2 (⟨t, tv', rfl, rfl, C2, K2⟩ | ⟨rfl, ⟨z, t, u, rfl⟩, hb2⟩)
    · have H2 := H0.of_kt C2 K2
      have D2 := (B0.mono hBw).trans K2.low
      have R2 := K2.row R0 gcb gtv
      obtain ⟨r0, r1, r2, r3, r4⟩ := row5 R2
      have KK : Kd B cb mb lv tv w lv tv' w2 := (Kd.of_all B0 hBw).trans (Kd.of_kt K2)
      clear R0 H0
      dsimp only
      by_cases ht : t = 1
      · subst ht
        go_wp2_with fail
        go_ret
        exact .inl ⟨_, _, _, _, _, (by first | rfl | exact if_pos rfl), rfl, H2, KK⟩
      · have nt : (t != 1) = true := bne_iff_ne.2 ht
        have nt2 : (t == 1) = false := beq_eq_false_iff_ne.2 ht
        have HN := hide ht
        clear ht
        have ec := (hV.below ((unhide Hw).trans D2) hB).ec
        go_wp2_with fail
        refine (unhide Hp _).mono ?_
        rintro r wp ⟨rfl, hbp⟩
        dsimp only
        go_wp2_with fail
        refine (faultAt_any i _ _ _).mono ?_
        rintro r wf ⟨⟨t', u', rfl⟩, hbf⟩
        dsimp only
        go_wp2_with fail
        go_ret
        exact .inr ⟨(by first | rfl | exact if_neg (unhide HN)), ⟨_, _, rfl⟩, (D2.trans (hbp.mono (Nat.le_trans hBw D2.size))).trans (hbf.mono (Nat.le_trans (Nat.le_trans hBw D2.size) hbp.size))⟩
    · dsimp only
      go_wp2_with fail
      go_ret
      exact .inr ⟨rfl, ⟨_, _, rfl⟩, (B0.mono hBw).trans hb2⟩
  · have B0 := (Below.refl w.heap.size w).alloc (Nat.le_refl _) (.cells #[.int .i64 j, .int .i64 kd, .string nm, .iface 158 (.agg #[.int .i64 i, .int .i64 op, .iface t1 u1, .iface t2 u2]), .iface tg ug] 77)
    have H0 := h.below B0
    have R0 := Row.new w #[.int .i64 j, .int .i64 kd, .string nm, .iface 158 (.agg #[.int .i64 i, .int .i64 op, .iface t1 u1, .iface t2 u2]), .iface tg ug] 77
    have zw : (w.alloc (.cells #[.int .i64 j, .int .i64 kd, .string nm, .iface 158 (.agg #[.int .i64 i, .int .i64 op, .iface t1 u1, .iface t2 u2]), .iface tg ug] 77)).heap.size = w.heap.size + 1 := by simp
    have gcb : w.heap.size ≠ cb := by have := h.C.row.lt; omega
    have gmb : w.heap.size ≠ mb := by have := h.M.lt; omega
    have gtv : tv.ownBlock ≠ some w.heap.size := fun e => by have := (h.C.types.lt _ e).2; omega
    go_enter Tryz.func82, Tryz.ntmps82
    go_wp2_with fail
    refine (unhide V tt tv _ ((unhide Hw).trans (B0.mono hBw)) H0.C hz).mono ?_
    rintro r w2 (⟨t, tv', rfl, rfl, C2, K2⟩ | ⟨rfl, ⟨z, t, u, rfl⟩, hb2⟩)
    · have H2 := H0.of_kt C2 K2
      have D2 := (B0.mono hBw).trans K2.low
      have R2 := K2.row R0 gcb gtv
      obtain ⟨r0, r1, r2, r3, r4⟩ := row5 R2
      have KK : Kd B cb mb lv tv w lv tv' w2 := (Kd.of_all B0 hBw).trans (Kd.of_kt K2)
      clear R0 H0
      dsimp only
      by_cases ht : t = 1
      · subst ht
        go_wp2_with fail
        go_ret
        exact .inl ⟨_, _, _, _, _, (by first | rfl | exact if_pos rfl), rfl, H2, KK⟩
      · have nt : (t != 1) = true := bne_iff_ne.2 ht
        have nt2 : (t == 1) = false := beq_eq_false_iff_ne.2 ht
        have HN := hide ht
        clear ht
        have ec := (hV.below ((unhide Hw).trans D2) hB).ec
        go_wp2_with fail
        refine (unhide Hp _).mono ?_
        rintro r wp ⟨rfl, hbp⟩
        dsimp only
        go_wp2_with fail
        refine (faultAt_any i _ _ _).mono ?_
        rintro r wf ⟨⟨t', u', rfl⟩, hbf⟩
        dsimp only
        go_wp2_with fail
        go_ret
        exact .inr ⟨(by first | rfl | exact if_neg (unhide HN)), ⟨_, _, rfl⟩, (D2.trans (hbp.mono (Nat.le_trans hBw D2.size))).trans (hbf.mono (Nat.le_trans (Nat.le_trans hBw D2.size) hbp.size))⟩
    · dsimp only
      go_wp2_with fail
      go_ret
      exact .inr ⟨rfl, ⟨_, _, rfl⟩, (B0.mono hBw).trans hb2⟩

set_option maxHeartbeats 1600000 in
set_option maxRecDepth 100000 in
theorem grant_bin (B cb mb : Nat) (ns : List ByteArray) (ts tt : List Int) (lv tv : Value) (w0 : World) (aT aN aA : Addr) (hV : Vok w0 aT) (hE : Eok w0 aN aA) (hB : w0.heap.size ≤ B) (j : Nat) (kd : Int) (nm : ByteArray) (i op : Int) (t1 : TypeId) (u1 : Value) (t2 : TypeId) (u2 : Value) (gv : Value) (hg : formV gv) (ot : Option Int) (ys : List Int) (V : Hid (TyV B cb ts (.map (some mb)) lv w0 (.iface 158 (.agg #[.int .i64 i, .int .i64 op, .iface t1 u1, .iface t2 u2])) ot ys)) (w : World) (hw : Below B w0 w) (h : Cm B cb mb ns ts tt lv tv w) (hz : tt.length + ys.length ≤ 4000) :
    Calls Tryz.prog 83 #[.pointer (some ⟨cb, 0, none⟩), .agg #[.int .i64 j, .int .i64 kd, .string nm, gv, .iface 158 (.agg #[.int .i64 i, .int .i64 op, .iface t1 u1, .iface t2 u2])]] w (GoAns B cb mb lv tv (match ot with | some t => if t = 4 then some (ns, ts, tt ++ ys) else none | none => none) w) := by
  have hBw : B ≤ w.heap.size := by have := h.C.low; have := h.C.row.lt; omega
  have hp := place_bin i op t1 u1 t2 u2
  have Hp := hide (place_of_bin i op t1 u1 t2 u2)
  have Hw := hide hw
  clear hw
  rcases hg with rfl | ⟨tg, ug, rfl⟩
  · have B0 := (Below.refl w.heap.size w).alloc (Nat.le_refl _) (.cells #[.int .i64 j, .int .i64 kd, .string nm, .nilIface, .iface 158 (.agg #[.int .i64 i, .int .i64 op, .iface t1 u1, .iface t2 u2])] 77)
    have H0 := h.below B0
    have R0 := Row.new w #[.int .i64 j, .int .i64 kd, .string nm, .nilIface, .iface 158 (.agg #[.int .i64 i, .int .i64 op, .iface t1 u1, .iface t2 u2])] 77
    have gcb : w.heap.size ≠ cb := by have := h.C.row.lt; omega
    have gtv : tv.ownBlock ≠ some w.heap.size := fun e => by have := (h.C.types.lt _ e).2; omega
    go_enter Tryz.func83, Tryz.ntmps83
    go_wp2_with fail
    refine (unhide V tt tv _ ((unhide Hw).trans (B0.mono hBw)) H0.C hz).mono ?_
    rintro r w2 (⟨t, tv', rfl, rfl, C2, K2⟩ | ⟨rfl, ⟨z, t, u, rfl⟩, hb2⟩)
    · have H2 := H0.of_kt C2 K2
      have D2 := (B0.mono hBw).trans K2.low
      have R2 := K2.row R0 gcb gtv
      obtain ⟨r0, r1, r2, r3, r4⟩ := row5 R2
      have KK : Kd B cb mb lv tv w lv tv' w2 := (Kd.of_all B0 hBw).trans (Kd.of_kt K2)
      clear R0 H0
      dsimp only
      by_cases ht : t = 4
      · subst ht
        go_wp2_with fail
        go_ret
        exact .inl ⟨_, _, _, _, _, (by first | rfl | exact if_pos rfl), rfl, H2, KK⟩
      · have nt : (t != 4) = true := bne_iff_ne.2 ht
        have nt2 : (t == 4) = false := beq_eq_false_iff_ne.2 ht
        have HN := hide ht
        clear ht
        have V2 := hV.below ((unhide Hw).trans D2) hB
        have ec := V2.ec
        have el := V2.e
        have D1 : Below w2.heap.size w2 w2.drew := (Below.refl _ _).drew
        have keep : ∀ w', Below w2.heap.size w2 w' → w'.cell? ⟨w.heap.size, 4, none⟩ = some (.iface 158 (.agg #[.int .i64 i, .int .i64 op, .iface t1 u1, .iface t2 u2])) ∧ w'.cell? ⟨1, 0, none⟩ = some (.iface 221 (.pointer (some aT))) := fun w' hb => ⟨(R2.after hb (Nat.le_refl _)).cell 4, (hb.cell (p := ⟨1, 0, none⟩) el).trans ec⟩
        have KP := hide keep
        have q1 := keep _ D1
        clear keep V2
        go_wp2_with fail
        go_region_held3 (fun w' => w'.cell? ⟨w.heap.size, 4, none⟩ = some (.iface 158 (.agg #[.int .i64 i, .int .i64 op, .iface t1 u1, .iface t2 u2])) ∧ w'.cell? ⟨1, 0, none⟩ = some (.iface 221 (.pointer (some aT)))) (first | assumption | go_keep)
          (first
            | (go_at_call 104; refine (faultAt_any i _ _ _).mono ?_; rintro r wf ⟨⟨t', u', rfl⟩, hbf⟩; have G3 := G2.trans (hbf.mono G2.size); have q3 := unhide KP _ G3)
            | (go_at_call 152; refine (unhide Hp _).mono ?_; rintro r wp ⟨rfl, hbp⟩; have G2 := D1.trans (hbp.mono D1.size); have q2 := unhide KP _ G2))
        go_wp2_with fail
        go_ret
        exact .inr ⟨(by first | rfl | exact if_neg (unhide HN)), ⟨_, _, rfl⟩, D2.trans (G3.mono (Nat.le_trans hBw D2.size))⟩
    · dsimp only
      go_wp2_with fail
      go_ret
      exact .inr ⟨rfl, ⟨_, _, rfl⟩, (B0.mono hBw).trans hb2⟩
  · have B0 := (Below.refl w.heap.size w).alloc (Nat.le_refl _) (.cells #[.int .i64 j, .int .i64 kd, .string nm, .iface tg ug, .iface 158 (.agg #[.int .i64 i, .int .i64 op, .iface t1 u1, .iface t2 u2])] 77)
    have H0 := h.below B0
    have R0 := Row.new w #[.int .i64 j, .int .i64 kd, .string nm, .iface tg ug, .iface 158 (.agg #[.int .i64 i, .int .i64 op, .iface t1 u1, .iface t2 u2])] 77
    have gcb : w.heap.size ≠ cb := by have := h.C.row.lt; omega
    have gtv : tv.ownBlock ≠ some w.heap.size := fun e => by have := (h.C.types.lt _ e).2; omega
    go_enter Tryz.func83, Tryz.ntmps83
    go_wp2_with fail
    refine (unhide V tt tv _ ((unhide Hw).trans (B0.mono hBw)) H0.C hz).mono ?_
    rintro r w2 (⟨t, tv', rfl, rfl, C2, K2⟩ | ⟨rfl, ⟨z, t, u, rfl⟩, hb2⟩)
    · have H2 := H0.of_kt C2 K2
      have D2 := (B0.mono hBw).trans K2.low
      have R2 := K2.row R0 gcb gtv
      obtain ⟨r0, r1, r2, r3, r4⟩ := row5 R2
      have KK : Kd B cb mb lv tv w lv tv' w2 := (Kd.of_all B0 hBw).trans (Kd.of_kt K2)
      clear R0 H0
      dsimp only
      by_cases ht : t = 4
      · subst ht
        go_wp2_with fail
        go_ret
        exact .inl ⟨_, _, _, _, _, (by first | rfl | exact if_pos rfl), rfl, H2, KK⟩
      · have nt : (t != 4) = true := bne_iff_ne.2 ht
        have nt2 : (t == 4) = false := beq_eq_false_iff_ne.2 ht
        have HN := hide ht
        clear ht
        have V2 := hV.below ((unhide Hw).trans D2) hB
        have ec := V2.ec
        have el := V2.e
        have D1 : Below w2.heap.size w2 w2.drew := (Below.refl _ _).drew
        have keep : ∀ w', Below w2.heap.size w2 w' → w'.cell? ⟨w.heap.size, 4, none⟩ = some (.iface 158 (.agg #[.int .i64 i, .int .i64 op, .iface t1 u1, .iface t2 u2])) ∧ w'.cell? ⟨1, 0, none⟩ = some (.iface 221 (.pointer (some aT))) := fun w' hb => ⟨(R2.after hb (Nat.le_refl _)).cell 4, (hb.cell (p := ⟨1, 0, none⟩) el).trans ec⟩
        have KP := hide keep
        have q1 := keep _ D1
        clear keep V2
        go_wp2_with fail
        go_region_held3 (fun w' => w'.cell? ⟨w.heap.size, 4, none⟩ = some (.iface 158 (.agg #[.int .i64 i, .int .i64 op, .iface t1 u1, .iface t2 u2])) ∧ w'.cell? ⟨1, 0, none⟩ = some (.iface 221 (.pointer (some aT)))) (first | assumption | go_keep)
          (first
            | (go_at_call 104; refine (faultAt_any i _ _ _).mono ?_; rintro r wf ⟨⟨t', u', rfl⟩, hbf⟩; have G3 := G2.trans (hbf.mono G2.size); have q3 := unhide KP _ G3)
            | (go_at_call 152; refine (unhide Hp _).mono ?_; rintro r wp ⟨rfl, hbp⟩; have G2 := D1.trans (hbp.mono D1.size); have q2 := unhide KP _ G2))
        go_wp2_with fail
        go_ret
        exact .inr ⟨(by first | rfl | exact if_neg (unhide HN)), ⟨_, _, rfl⟩, D2.trans (G3.mono (Nat.le_trans hBw D2.size))⟩
    · dsimp only
      go_wp2_with fail
      go_ret
      exact .inr ⟨rfl, ⟨_, _, rfl⟩, (B0.mono hBw).trans hb2⟩

open Classical in
set_option maxHeartbeats 1600000 in
set_option maxRecDepth 100000 in
theorem condition_let_ite (B cb mb : Nat) (ns : List ByteArray) (ts tt : List Int) (lv tv : Value) (w0 : World) (aT aN aA : Addr) (hV : Vok w0 aT) (hE : Eok w0 aN aA) (hB : w0.heap.size ≤ B) (j : Nat) (nm : ByteArray) (i : Int) (t1 : TypeId) (u1 : Value) (t2 : TypeId) (u2 : Value) (t3 : TypeId) (u3 : Value) (gv : Value) (hg : formV gv) (ot : Option Int) (ys : List Int) (V : Hid (TyV B cb ts (.map (some mb)) lv w0 (.iface 161 (.agg #[.int .i64 i, .iface t1 u1, .iface t2 u2, .iface t3 u3])) ot ys)) (w : World) (hw : Below B w0 w) (h : Cm B cb mb ns ts tt lv tv w) (hz : tt.length + ys.length ≤ 4000) (hl : ts.length ≤ 1000) :
    Calls Tryz.prog 82 #[.pointer (some ⟨cb, 0, none⟩), .agg #[.int .i64 j, .int .i64 1, .string nm, .iface 161 (.agg #[.int .i64 i, .iface t1 u1, .iface t2 u2, .iface t3 u3]), gv]] w (GoAns B cb mb lv tv (match ot with | some t => if nm ∈ ns then none else some (ns ++ [nm], ts ++ [t], tt ++ ys) | none => none) w) := by
  have hBw : B ≤ w.heap.size := by have := h.C.low; have := h.C.row.lt; omega
  have hp := place_ite i t1 u1 t2 u2 t3 u3
  have Hp := hide (place_of_ite i t1 u1 t2 u2 t3 u3)
  have Hw := hide hw
  clear hw
  rcases hg with rfl | ⟨tg, ug, rfl⟩
  · have B0 := (Below.refl w.heap.size w).alloc (Nat.le_refl _) (.cells #[.int .i64 j, .int .i64 1, .string nm, .iface 161 (.agg #[.int .i64 i, .iface t1 u1, .iface t2 u2, .iface t3 u3]), .nilIface] 77)
    have H0 := h.below B0
    have R0 := Row.new w #[.int .i64 j, .int .i64 1, .string nm, .iface 161 (.agg #[.int .i64 i, .iface t1 u1, .iface t2 u2, .iface t3 u3]), .nilIface] 77
    have zw : (w.alloc (.cells #[.int .i64 j, .int .i64 1, .string nm, .iface 161 (.agg #[.int .i64 i, .iface t1 u1, .iface t2 u2, .iface t3 u3]), .nilIface] 77)).heap.size = w.heap.size + 1 := by simp
    have gcb : w.heap.size ≠ cb := by have := h.C.row.lt; omega
    have gmb : w.heap.size ≠ mb := by have := h.M.lt; omega
    have gtv : tv.ownBlock ≠ some w.heap.size := fun e => by have := (h.C.types.lt _ e).2; omega
    go_enter Tryz.func82, Tryz.ntmps82
    go_wp2_with fail
    refine (unhide V tt tv _ ((unhide Hw).trans (B0.mono hBw)) H0.C hz).mono ?_
    rintro r w2 (⟨t, tv', rfl, rfl, C2, K2⟩ | ⟨rfl, ⟨z, t, u, rfl⟩, hb2⟩)
    · have H2 := H0.of_kt C2 K2
      have D2 := (B0.mono hBw).trans K2.low
      have R2 := K2.row R0 gcb gtv
      obtain ⟨r0, r1, r2, r3, r4⟩ := row5 R2
      have KK : Kd B cb mb lv tv w lv tv' w2 := (Kd.of_all B0 hBw).trans (Kd.of_kt K2)
      clear R0 H0
      dsimp only
      go_wp2_with fail
      refine (declare_any B cb mb ns ts _ lv tv' nm t aN aA w2 (hE.below ((unhide Hw).trans D2) hB) H2 hl).mono ?_
      rintro r w3 (⟨hn, rfl, lv', H3, K3⟩ | ⟨hn, ⟨te, ue, rfl⟩, hb3⟩)
      · have HN := hide hn
        clear hn
        dsimp only
        go_wp2_with fail
        go_ret
        exact .inl ⟨_, _, _, _, _, (by first | rfl | exact if_neg (unhide HN)), rfl, H3, KK.trans K3⟩
      · have HN := hide hn
        clear hn
        have D3 := D2.trans (hb3.mono (Nat.le_trans hBw D2.size))
        obtain ⟨s0, s1, s2, s3, s4⟩ := row5 (R2.after hb3 (Nat.le_refl _))
        dsimp only
        go_wp2_with fail
        refine (unhide Hp _).mono ?_
        rintro r wp ⟨rfl, hbp⟩
        dsimp only
        go_wp2_with fail
        refine (faultAt_any i _ _ _).mono ?_
        rintro r wf ⟨⟨t', u', rfl⟩, hbf⟩
        dsimp only
        go_wp2_with fail
        go_ret
        exact .inr ⟨(by first | rfl | exact if_pos (unhide HN)), ⟨_, _, rfl⟩, (D3.trans (hbp.mono (Nat.le_trans hBw D3.size))).trans (hbf.mono (Nat.le_trans (Nat.le_trans hBw D3.size) hbp.size))⟩
    · dsimp only
      go_wp2_with fail
      go_ret
      exact .inr ⟨rfl, ⟨_, _, rfl⟩, (B0.mono hBw).trans hb2⟩
  · have B0 := (Below.refl w.heap.size w).alloc (Nat.le_refl _) (.cells #[.int .i64 j, .int .i64 1, .string nm, .iface 161 (.agg #[.int .i64 i, .iface t1 u1, .iface t2 u2, .iface t3 u3]), .iface tg ug] 77)
    have H0 := h.below B0
    have R0 := Row.new w #[.int .i64 j, .int .i64 1, .string nm, .iface 161 (.agg #[.int .i64 i, .iface t1 u1, .iface t2 u2, .iface t3 u3]), .iface tg ug] 77
    have zw : (w.alloc (.cells #[.int .i64 j, .int .i64 1, .string nm, .iface 161 (.agg #[.int .i64 i, .iface t1 u1, .iface t2 u2, .iface t3 u3]), .iface tg ug] 77)).heap.size = w.heap.size + 1 := by simp
    have gcb : w.heap.size ≠ cb := by have := h.C.row.lt; omega
    have gmb : w.heap.size ≠ mb := by have := h.M.lt; omega
    have gtv : tv.ownBlock ≠ some w.heap.size := fun e => by have := (h.C.types.lt _ e).2; omega
    go_enter Tryz.func82, Tryz.ntmps82
    go_wp2_with fail
    refine (unhide V tt tv _ ((unhide Hw).trans (B0.mono hBw)) H0.C hz).mono ?_
    rintro r w2 (⟨t, tv', rfl, rfl, C2, K2⟩ | ⟨rfl, ⟨z, t, u, rfl⟩, hb2⟩)
    · have H2 := H0.of_kt C2 K2
      have D2 := (B0.mono hBw).trans K2.low
      have R2 := K2.row R0 gcb gtv
      obtain ⟨r0, r1, r2, r3, r4⟩ := row5 R2
      have KK : Kd B cb mb lv tv w lv tv' w2 := (Kd.of_all B0 hBw).trans (Kd.of_kt K2)
      clear R0 H0
      dsimp only
      go_wp2_with fail
      refine (declare_any B cb mb ns ts _ lv tv' nm t aN aA w2 (hE.below ((unhide Hw).trans D2) hB) H2 hl).mono ?_
      rintro r w3 (⟨hn, rfl, lv', H3, K3⟩ | ⟨hn, ⟨te, ue, rfl⟩, hb3⟩)
      · have HN := hide hn
        clear hn
        dsimp only
        go_wp2_with fail
        go_ret
        exact .inl ⟨_, _, _, _, _, (by first | rfl | exact if_neg (unhide HN)), rfl, H3, KK.trans K3⟩
      · have HN := hide hn
        clear hn
        have D3 := D2.trans (hb3.mono (Nat.le_trans hBw D2.size))
        obtain ⟨s0, s1, s2, s3, s4⟩ := row5 (R2.after hb3 (Nat.le_refl _))
        dsimp only
        go_wp2_with fail
        refine (unhide Hp _).mono ?_
        rintro r wp ⟨rfl, hbp⟩
        dsimp only
        go_wp2_with fail
        refine (faultAt_any i _ _ _).mono ?_
        rintro r wf ⟨⟨t', u', rfl⟩, hbf⟩
        dsimp only
        go_wp2_with fail
        go_ret
        exact .inr ⟨(by first | rfl | exact if_pos (unhide HN)), ⟨_, _, rfl⟩, (D3.trans (hbp.mono (Nat.le_trans hBw D3.size))).trans (hbf.mono (Nat.le_trans (Nat.le_trans hBw D3.size) hbp.size))⟩
    · dsimp only
      go_wp2_with fail
      go_ret
      exact .inr ⟨rfl, ⟨_, _, rfl⟩, (B0.mono hBw).trans hb2⟩

open Classical in
set_option maxHeartbeats 1600000 in
set_option maxRecDepth 100000 in
theorem condition_when_ite (B cb mb : Nat) (ns : List ByteArray) (ts tt : List Int) (lv tv : Value) (w0 : World) (aT aN aA : Addr) (hV : Vok w0 aT) (hE : Eok w0 aN aA) (hB : w0.heap.size ≤ B) (j : Nat) (kd : Int) (hk : (kd == 1) = false) (nm : ByteArray) (i : Int) (t1 : TypeId) (u1 : Value) (t2 : TypeId) (u2 : Value) (t3 : TypeId) (u3 : Value) (gv : Value) (hg : formV gv) (ot : Option Int) (ys : List Int) (V : Hid (TyV B cb ts (.map (some mb)) lv w0 (.iface 161 (.agg #[.int .i64 i, .iface t1 u1, .iface t2 u2, .iface t3 u3])) ot ys)) (w : World) (hw : Below B w0 w) (h : Cm B cb mb ns ts tt lv tv w) (hz : tt.length + ys.length ≤ 4000) (hl : ts.length ≤ 1000) :
    Calls Tryz.prog 82 #[.pointer (some ⟨cb, 0, none⟩), .agg #[.int .i64 j, .int .i64 kd, .string nm, .iface 161 (.agg #[.int .i64 i, .iface t1 u1, .iface t2 u2, .iface t3 u3]), gv]] w (GoAns B cb mb lv tv (match ot with | some t => if t = 1 then some (ns, ts, tt ++ ys) else none | none => none) w) := by
  have hBw : B ≤ w.heap.size := by have := h.C.low; have := h.C.row.lt; omega
  have hp := place_ite i t1 u1 t2 u2 t3 u3
  have Hp := hide (place_of_ite i t1 u1 t2 u2 t3 u3)
  have Hw := hide hw
  clear hw
  rcases hg with rfl | ⟨tg, ug, rfl⟩
  · have B0 := (Below.refl w.heap.size w).alloc (Nat.le_refl _) (.cells #[.int .i64 j, .int .i64 kd, .string nm, .iface 161 (.agg #[.int .i64 i, .iface t1 u1, .iface t2 u2, .iface t3 u3]), .nilIface] 77)
    have H0 := h.below B0
    have R0 := Row.new w #[.int .i64 j, .int .i64 kd, .string nm, .iface 161 (.agg #[.int .i64 i, .iface t1 u1, .iface t2 u2, .iface t3 u3]), .nilIface] 77
    have zw : (w.alloc (.cells #[.int .i64 j, .int .i64 kd, .string nm, .iface 161 (.agg #[.int .i64 i, .iface t1 u1, .iface t2 u2, .iface t3 u3]), .nilIface] 77)).heap.size = w.heap.size + 1 := by simp
    have gcb : w.heap.size ≠ cb := by have := h.C.row.lt; omega
    have gmb : w.heap.size ≠ mb := by have := h.M.lt; omega
    have gtv : tv.ownBlock ≠ some w.heap.size := fun e => by have := (h.C.types.lt _ e).2; omega
    go_enter Tryz.func82, Tryz.ntmps82
    go_wp2_with fail
    refine (unhide V tt tv _ ((unhide Hw).trans (B0.mono hBw)) H0.C hz).mono ?_
    rintro r w2 (⟨t, tv', rfl, rfl, C2, K2⟩ | ⟨rfl, ⟨z, t, u, rfl⟩, hb2⟩)
    · have H2 := H0.of_kt C2 K2
      have D2 := (B0.mono hBw).trans K2.low
      have R2 := K2.row R0 gcb gtv
      obtain ⟨r0, r1, r2, r3, r4⟩ := row5 R2
      have KK : Kd B cb mb lv tv w lv tv' w2 := (Kd.of_all B0 hBw).trans (Kd.of_kt K2)
      clear R0 H0
      dsimp only
      by_cases ht : t = 1
      · subst ht
        go_wp2_with fail
        go_ret
        exact .inl ⟨_, _, _, _, _, (by first | rfl | exact if_pos rfl), rfl, H2, KK⟩
      · have nt : (t != 1) = true := bne_iff_ne.2 ht
        have nt2 : (t == 1) = false := beq_eq_false_iff_ne.2 ht
        have HN := hide ht
        clear ht
        have ec := (hV.below ((unhide Hw).trans D2) hB).ec
        go_wp2_with fail
        refine (unhide Hp _).mono ?_
        rintro r wp ⟨rfl, hbp⟩
        dsimp only
        go_wp2_with fail
        refine (faultAt_any i _ _ _).mono ?_
        rintro r wf ⟨⟨t', u', rfl⟩, hbf⟩
        dsimp only
        go_wp2_with fail
        go_ret
        exact .inr ⟨(by first | rfl | exact if_neg (unhide HN)), ⟨_, _, rfl⟩, (D2.trans (hbp.mono (Nat.le_trans hBw D2.size))).trans (hbf.mono (Nat.le_trans (Nat.le_trans hBw D2.size) hbp.size))⟩
    · dsimp only
      go_wp2_with fail
      go_ret
      exact .inr ⟨rfl, ⟨_, _, rfl⟩, (B0.mono hBw).trans hb2⟩
  · have B0 := (Below.refl w.heap.size w).alloc (Nat.le_refl _) (.cells #[.int .i64 j, .int .i64 kd, .string nm, .iface 161 (.agg #[.int .i64 i, .iface t1 u1, .iface t2 u2, .iface t3 u3]), .iface tg ug] 77)
    have H0 := h.below B0
    have R0 := Row.new w #[.int .i64 j, .int .i64 kd, .string nm, .iface 161 (.agg #[.int .i64 i, .iface t1 u1, .iface t2 u2, .iface t3 u3]), .iface tg ug] 77
    have zw : (w.alloc (.cells #[.int .i64 j, .int .i64 kd, .string nm, .iface 161 (.agg #[.int .i64 i, .iface t1 u1, .iface t2 u2, .iface t3 u3]), .iface tg ug] 77)).heap.size = w.heap.size + 1 := by simp
    have gcb : w.heap.size ≠ cb := by have := h.C.row.lt; omega
    have gmb : w.heap.size ≠ mb := by have := h.M.lt; omega
    have gtv : tv.ownBlock ≠ some w.heap.size := fun e => by have := (h.C.types.lt _ e).2; omega
    go_enter Tryz.func82, Tryz.ntmps82
    go_wp2_with fail
    refine (unhide V tt tv _ ((unhide Hw).trans (B0.mono hBw)) H0.C hz).mono ?_
    rintro r w2 (⟨t, tv', rfl, rfl, C2, K2⟩ | ⟨rfl, ⟨z, t, u, rfl⟩, hb2⟩)
    · have H2 := H0.of_kt C2 K2
      have D2 := (B0.mono hBw).trans K2.low
      have R2 := K2.row R0 gcb gtv
      obtain ⟨r0, r1, r2, r3, r4⟩ := row5 R2
      have KK : Kd B cb mb lv tv w lv tv' w2 := (Kd.of_all B0 hBw).trans (Kd.of_kt K2)
      clear R0 H0
      dsimp only
      by_cases ht : t = 1
      · subst ht
        go_wp2_with fail
        go_ret
        exact .inl ⟨_, _, _, _, _, (by first | rfl | exact if_pos rfl), rfl, H2, KK⟩
      · have nt : (t != 1) = true := bne_iff_ne.2 ht
        have nt2 : (t == 1) = false := beq_eq_false_iff_ne.2 ht
        have HN := hide ht
        clear ht
        have ec := (hV.below ((unhide Hw).trans D2) hB).ec
        go_wp2_with fail
        refine (unhide Hp _).mono ?_
        rintro r wp ⟨rfl, hbp⟩
        dsimp only
        go_wp2_with fail
        refine (faultAt_any i _ _ _).mono ?_
        rintro r wf ⟨⟨t', u', rfl⟩, hbf⟩
        dsimp only
        go_wp2_with fail
        go_ret
        exact .inr ⟨(by first | rfl | exact if_neg (unhide HN)), ⟨_, _, rfl⟩, (D2.trans (hbp.mono (Nat.le_trans hBw D2.size))).trans (hbf.mono (Nat.le_trans (Nat.le_trans hBw D2.size) hbp.size))⟩
    · dsimp only
      go_wp2_with fail
      go_ret
      exact .inr ⟨rfl, ⟨_, _, rfl⟩, (B0.mono hBw).trans hb2⟩

set_option maxHeartbeats 1600000 in
set_option maxRecDepth 100000 in
theorem grant_ite (B cb mb : Nat) (ns : List ByteArray) (ts tt : List Int) (lv tv : Value) (w0 : World) (aT aN aA : Addr) (hV : Vok w0 aT) (hE : Eok w0 aN aA) (hB : w0.heap.size ≤ B) (j : Nat) (kd : Int) (nm : ByteArray) (i : Int) (t1 : TypeId) (u1 : Value) (t2 : TypeId) (u2 : Value) (t3 : TypeId) (u3 : Value) (gv : Value) (hg : formV gv) (ot : Option Int) (ys : List Int) (V : Hid (TyV B cb ts (.map (some mb)) lv w0 (.iface 161 (.agg #[.int .i64 i, .iface t1 u1, .iface t2 u2, .iface t3 u3])) ot ys)) (w : World) (hw : Below B w0 w) (h : Cm B cb mb ns ts tt lv tv w) (hz : tt.length + ys.length ≤ 4000) :
    Calls Tryz.prog 83 #[.pointer (some ⟨cb, 0, none⟩), .agg #[.int .i64 j, .int .i64 kd, .string nm, gv, .iface 161 (.agg #[.int .i64 i, .iface t1 u1, .iface t2 u2, .iface t3 u3])]] w (GoAns B cb mb lv tv (match ot with | some t => if t = 4 then some (ns, ts, tt ++ ys) else none | none => none) w) := by
  have hBw : B ≤ w.heap.size := by have := h.C.low; have := h.C.row.lt; omega
  have hp := place_ite i t1 u1 t2 u2 t3 u3
  have Hp := hide (place_of_ite i t1 u1 t2 u2 t3 u3)
  have Hw := hide hw
  clear hw
  rcases hg with rfl | ⟨tg, ug, rfl⟩
  · have B0 := (Below.refl w.heap.size w).alloc (Nat.le_refl _) (.cells #[.int .i64 j, .int .i64 kd, .string nm, .nilIface, .iface 161 (.agg #[.int .i64 i, .iface t1 u1, .iface t2 u2, .iface t3 u3])] 77)
    have H0 := h.below B0
    have R0 := Row.new w #[.int .i64 j, .int .i64 kd, .string nm, .nilIface, .iface 161 (.agg #[.int .i64 i, .iface t1 u1, .iface t2 u2, .iface t3 u3])] 77
    have gcb : w.heap.size ≠ cb := by have := h.C.row.lt; omega
    have gtv : tv.ownBlock ≠ some w.heap.size := fun e => by have := (h.C.types.lt _ e).2; omega
    go_enter Tryz.func83, Tryz.ntmps83
    go_wp2_with fail
    refine (unhide V tt tv _ ((unhide Hw).trans (B0.mono hBw)) H0.C hz).mono ?_
    rintro r w2 (⟨t, tv', rfl, rfl, C2, K2⟩ | ⟨rfl, ⟨z, t, u, rfl⟩, hb2⟩)
    · have H2 := H0.of_kt C2 K2
      have D2 := (B0.mono hBw).trans K2.low
      have R2 := K2.row R0 gcb gtv
      obtain ⟨r0, r1, r2, r3, r4⟩ := row5 R2
      have KK : Kd B cb mb lv tv w lv tv' w2 := (Kd.of_all B0 hBw).trans (Kd.of_kt K2)
      clear R0 H0
      dsimp only
      by_cases ht : t = 4
      · subst ht
        go_wp2_with fail
        go_ret
        exact .inl ⟨_, _, _, _, _, (by first | rfl | exact if_pos rfl), rfl, H2, KK⟩
      · have nt : (t != 4) = true := bne_iff_ne.2 ht
        have nt2 : (t == 4) = false := beq_eq_false_iff_ne.2 ht
        have HN := hide ht
        clear ht
        have V2 := hV.below ((unhide Hw).trans D2) hB
        have ec := V2.ec
        have el := V2.e
        have D1 : Below w2.heap.size w2 w2.drew := (Below.refl _ _).drew
        have keep : ∀ w', Below w2.heap.size w2 w' → w'.cell? ⟨w.heap.size, 4, none⟩ = some (.iface 161 (.agg #[.int .i64 i, .iface t1 u1, .iface t2 u2, .iface t3 u3])) ∧ w'.cell? ⟨1, 0, none⟩ = some (.iface 221 (.pointer (some aT))) := fun w' hb => ⟨(R2.after hb (Nat.le_refl _)).cell 4, (hb.cell (p := ⟨1, 0, none⟩) el).trans ec⟩
        have KP := hide keep
        have q1 := keep _ D1
        clear keep V2
        go_wp2_with fail
        go_region_held3 (fun w' => w'.cell? ⟨w.heap.size, 4, none⟩ = some (.iface 161 (.agg #[.int .i64 i, .iface t1 u1, .iface t2 u2, .iface t3 u3])) ∧ w'.cell? ⟨1, 0, none⟩ = some (.iface 221 (.pointer (some aT)))) (first | assumption | go_keep)
          (first
            | (go_at_call 104; refine (faultAt_any i _ _ _).mono ?_; rintro r wf ⟨⟨t', u', rfl⟩, hbf⟩; have G3 := G2.trans (hbf.mono G2.size); have q3 := unhide KP _ G3)
            | (go_at_call 154; refine (unhide Hp _).mono ?_; rintro r wp ⟨rfl, hbp⟩; have G2 := D1.trans (hbp.mono D1.size); have q2 := unhide KP _ G2))
        go_wp2_with fail
        go_ret
        exact .inr ⟨(by first | rfl | exact if_neg (unhide HN)), ⟨_, _, rfl⟩, D2.trans (G3.mono (Nat.le_trans hBw D2.size))⟩
    · dsimp only
      go_wp2_with fail
      go_ret
      exact .inr ⟨rfl, ⟨_, _, rfl⟩, (B0.mono hBw).trans hb2⟩
  · have B0 := (Below.refl w.heap.size w).alloc (Nat.le_refl _) (.cells #[.int .i64 j, .int .i64 kd, .string nm, .iface tg ug, .iface 161 (.agg #[.int .i64 i, .iface t1 u1, .iface t2 u2, .iface t3 u3])] 77)
    have H0 := h.below B0
    have R0 := Row.new w #[.int .i64 j, .int .i64 kd, .string nm, .iface tg ug, .iface 161 (.agg #[.int .i64 i, .iface t1 u1, .iface t2 u2, .iface t3 u3])] 77
    have gcb : w.heap.size ≠ cb := by have := h.C.row.lt; omega
    have gtv : tv.ownBlock ≠ some w.heap.size := fun e => by have := (h.C.types.lt _ e).2; omega
    go_enter Tryz.func83, Tryz.ntmps83
    go_wp2_with fail
    refine (unhide V tt tv _ ((unhide Hw).trans (B0.mono hBw)) H0.C hz).mono ?_
    rintro r w2 (⟨t, tv', rfl, rfl, C2, K2⟩ | ⟨rfl, ⟨z, t, u, rfl⟩, hb2⟩)
    · have H2 := H0.of_kt C2 K2
      have D2 := (B0.mono hBw).trans K2.low
      have R2 := K2.row R0 gcb gtv
      obtain ⟨r0, r1, r2, r3, r4⟩ := row5 R2
      have KK : Kd B cb mb lv tv w lv tv' w2 := (Kd.of_all B0 hBw).trans (Kd.of_kt K2)
      clear R0 H0
      dsimp only
      by_cases ht : t = 4
      · subst ht
        go_wp2_with fail
        go_ret
        exact .inl ⟨_, _, _, _, _, (by first | rfl | exact if_pos rfl), rfl, H2, KK⟩
      · have nt : (t != 4) = true := bne_iff_ne.2 ht
        have nt2 : (t == 4) = false := beq_eq_false_iff_ne.2 ht
        have HN := hide ht
        clear ht
        have V2 := hV.below ((unhide Hw).trans D2) hB
        have ec := V2.ec
        have el := V2.e
        have D1 : Below w2.heap.size w2 w2.drew := (Below.refl _ _).drew
        have keep : ∀ w', Below w2.heap.size w2 w' → w'.cell? ⟨w.heap.size, 4, none⟩ = some (.iface 161 (.agg #[.int .i64 i, .iface t1 u1, .iface t2 u2, .iface t3 u3])) ∧ w'.cell? ⟨1, 0, none⟩ = some (.iface 221 (.pointer (some aT))) := fun w' hb => ⟨(R2.after hb (Nat.le_refl _)).cell 4, (hb.cell (p := ⟨1, 0, none⟩) el).trans ec⟩
        have KP := hide keep
        have q1 := keep _ D1
        clear keep V2
        go_wp2_with fail
        go_region_held3 (fun w' => w'.cell? ⟨w.heap.size, 4, none⟩ = some (.iface 161 (.agg #[.int .i64 i, .iface t1 u1, .iface t2 u2, .iface t3 u3])) ∧ w'.cell? ⟨1, 0, none⟩ = some (.iface 221 (.pointer (some aT)))) (first | assumption | go_keep)
          (first
            | (go_at_call 104; refine (faultAt_any i _ _ _).mono ?_; rintro r wf ⟨⟨t', u', rfl⟩, hbf⟩; have G3 := G2.trans (hbf.mono G2.size); have q3 := unhide KP _ G3)
            | (go_at_call 154; refine (unhide Hp _).mono ?_; rintro r wp ⟨rfl, hbp⟩; have G2 := D1.trans (hbp.mono D1.size); have q2 := unhide KP _ G2))
        go_wp2_with fail
        go_ret
        exact .inr ⟨(by first | rfl | exact if_neg (unhide HN)), ⟨_, _, rfl⟩, D2.trans (G3.mono (Nat.le_trans hBw D2.size))⟩
    · dsimp only
      go_wp2_with fail
      go_ret
      exact .inr ⟨rfl, ⟨_, _, rfl⟩, (B0.mono hBw).trans hb2⟩

end Go.Proofs.YtpbopjgmiaoomaaGreatDoor

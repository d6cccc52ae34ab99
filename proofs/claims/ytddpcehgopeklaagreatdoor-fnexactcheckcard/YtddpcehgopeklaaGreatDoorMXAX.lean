/-
  ECD, ECE, ECF. Own work.
-/
import Derived.Test.YtddpcehgopeklaaGreatDoorMXAW
import Derived.Test.YtddpcehgopeklaaGreatDoorMXAS
namespace Go.Proofs.YtddpcehgopeklaaGreatDoor
open Go.RowKit
set_option linter.unusedVariables false

/-- the sentinel of a fault's code -/
def cad (aT aN aA : Addr) (c : Int) : Addr := if c = 7 then aN else if c = 8 then aA else aT

/-- a placed error, as it lies -/
def ErO (aT aN aA : Addr) (f : Int × Int) (g : Nat) (w : World) : Prop := Row w g #[.int .i64 f.2, .iface 224 (.pointer (some (cad aT aN aA f.1)))] 102

/-- what is answered of a tree -/
def TxO (aT aN aA : Addr) (B cb : Nat) (ts tt : List Int) (mv lv tv : Value) (o : Rs) (ys : List Int) (w : World) (r : Ending) (w' : World) : Prop :=
  (∃ t tv', o = .ok t ∧ r = .returned (.tuple #[.int .i64 t, .nilIface]) ∧ Ck B cb ts (tt ++ ys) mv lv tv' w' ∧ Kt B cb tv w tv' w') ∨ (∃ f g, o = .error f ∧ r = .returned (.tuple #[.int .i64 0, .iface 97 (.pointer (some ⟨g, 0, none⟩))]) ∧ ErO aT aN aA f g w' ∧ Below B w w')

def TxV (aT aN aA : Addr) (B cb : Nat) (ts : List Int) (mb : Nat) (D : List Dc) (lv : Value) (w0 : World) (v : Value) (o : Rs) (ys : List Int) : Prop :=
  ∀ (tt : List Int) (tv : Value) (w : World), Below B w0 w → Ck B cb ts tt (.map (some mb)) lv tv w → MapD w mb D → tt.length + ys.length ≤ 4000 → Calls Tryz.prog 93 #[.pointer (some ⟨cb, 0, none⟩), v] w (TxO aT aN aA B cb ts tt (.map (some mb)) lv tv o ys w)

theorem faultAt_at (i : Int) (t : TypeId) (p : Value) (w : World) :
    Calls Tryz.prog 95 #[.int .i64 i, .iface t p] w fun e w' => e = .returned (.iface 97 (.pointer (some ⟨w.heap.size, 0, none⟩))) ∧ Row w' w.heap.size #[.int .i64 i, .iface t p] 102 ∧ Below w.heap.size w w' := by
  go_enter Tryz.func95, Tryz.ntmps95
  go_wp2
  go_ret
  exact ⟨rfl, Row.new _ _ _, (Below.refl w.heap.size w).alloc (Nat.le_refl _) _⟩

theorem ot_cases {o : Option Int} {a : Addr} {r : Ending} (h : OtAns o a r) : (∃ t, o = some t ∧ r = .returned (.tuple #[.int .i64 t, .nilIface])) ∨ (o = none ∧ r = .returned (.tuple #[.int .i64 0, .iface 224 (.pointer (some a))])) := by
  cases o with
  | none => exact .inr ⟨rfl, h⟩
  | some t => exact .inl ⟨t, rfl, h⟩

theorem ot_of_ta {t : Int} {a : Addr} {r : Ending} (h : TaAns (some t) r) : OtAns (some t) a r := by
  rcases h with ⟨t', e, h⟩ | ⟨e, _⟩
  · cases e; exact h
  · cases e

theorem MapD.row_ne {w : World} {mb b : Nat} {D : List Dc} {cs : Array Value} {t : TypeId} (h : MapD w mb D) (R : Row w b cs t) : mb ≠ b := fun e => by
  obtain ⟨_, es, cl, h1, _⟩ := h
  rw [e, R.out] at h1
  cases h1

theorem MapD.own_ne {w : World} {mb B k n : Nat} {ti : TypeId} {D : List Dc} {v : Value} {cs : List Value} (h : MapD w mb D) (O : w.ownsRow B ti k v n cs) : v.ownBlock ≠ some mb := fun e => by
  obtain ⟨_, es, cl, h1, _⟩ := h
  rcases O.2 with ⟨hv, _⟩ | ⟨g, cap, cur, hv, _, hg, _⟩
  · rw [hv] at e; cases e
  · rw [hv] at e
    obtain rfl : g = mb := by simpa [Value.ownBlock] using e
    have := hg.symm.trans h1; simp at this

theorem MapD.kt {B cb mb : Nat} {ts tt : List Int} {D : List Dc} {mv lv tv tv' : Value} {w w' : World} (h : MapD w mb D) (C : Ck B cb ts tt mv lv tv w) (K : Kt B cb tv w tv' w') : MapD w' mb D :=
  h.keep (K.keep mb h.lt (h.row_ne C.row) (fun e => h.own_ne C.types e.symm))

set_option maxHeartbeats 800000 in
set_option maxRecDepth 100000 in
theorem typeX_leaf (aT aN aA : Addr) (c : Int) (B cb : Nat) (ts : List Int) (mb : Nat) (D : List Dc) (lv : Value) (w0 : World) (T : TypeId) (v : Value) (i : Int) (o : Option Int)
    (hk : ∀ w, (method 357 T v "loop.example/s01308/impl.kids").run Tryz.prog w = .ok (143, .int .i64 i) w)
    (hp : ∀ w, (method 357 T v "loop.example/s01308/impl.place").run Tryz.prog w = .ok (144, .int .i64 i) w)
    (HA : Hid (∀ tt tv w, Below B w0 w → Ck B cb ts tt (.map (some mb)) lv tv w → MapD w mb D → Calls Tryz.prog 113 #[.pointer (some ⟨cb, 0, none⟩), .iface T v, .slice none 0 0] w fun r w' => OtAns o (cad aT aN aA c) r ∧ Below w.heap.size w w')) :
    TxV aT aN aA B cb ts mb D lv w0 (.iface T v) (ofO (c, i) o) [gX (ofO (c, i) o)] := by
  intro tt tv w hw hC hM hz
  have HM := hide hM
  have HC0 := hide hC
  clear hM
  have Hw := hide hw
  have HC := hide hC
  have hcb := hC.row.lt
  obtain ⟨ii, hii, ez0, ez1, ez2⟩ := info_parts infoI
  clear hw
  go_enter Tryz.func93, Tryz.ntmps93
  go_wp2_with fail
  refine (kids_leaf i _).mono ?_
  rintro r w1 ⟨rfl, hw1⟩
  rw [hw1]
  clear hw1
  dsimp only
  go_wp2_with fail
  refine wp_loop_rounds 1 ?_
  rw [rounds_succ]
  go_wp2_with fail
  refine (unhide HA tt tv _ (unhide Hw) (unhide HC) (unhide HM)).mono ?_
  rintro r w2 ⟨hr, hb2⟩
  have C2 := hC.below hb2
  have hBw : B ≤ w.heap.size := by have := hC.low; omega
  have K2 : Kt B cb tv w tv w2 := Kt.of_all hb2 hBw
  rcases ot_cases hr with ⟨t, rfl, rfl⟩ | ⟨rfl, rfl⟩
  · have c2 : w2.cell? ⟨cb, 2, none⟩ = some tv := C2.row.cell 2
    obtain ⟨xv, kv, rfl, _⟩ := owns_form2 C2.types
    dsimp only
    go_wp2_with (at_builtin; refine wpList_append_lies _ rfl _ _ 29 rfl B 3 ii (.int .i64 0) 1 8 Tryz.underlying29 hii ez0 ez1 ez2 rfl (by decide) _ _ _ rfl (World.ownsRow.alloc C2.types _) ⟨w2.heap.size, 0, none⟩ 1 1 [.int .i64 t] rfl rfl ?c1 ?c2 (by decide) ?c3 ?c4 ?c5 (w2.heap.size + 1) (by simp) ?_)
    case c1 => exact one_cell _ _ _ _ (by simp)
    case c2 => intro u hu; simp at hu; subst hu; rfl
    case c3 => unfold maxLen; simp at hz; omega
    case c4 => simp at hz; omega
    case c5 => have := C2.low; have := C2.row.lt; simp; omega
    intro g cap w3 O3 hgrow hat hgl
    obtain ⟨R3, C3, K3⟩ := C2.push (by have := C2.low; have := C2.row.lt; omega) O3 hgrow hat
    have d2 : w3.cell? ⟨cb, 2, none⟩ = some (.slice xv tt.length kv) := R3.cell 2
    have df := R3.frozen 2
    go_wp2_with fail
    exact bodyPost_ret (v := .tuple #[.int .i64 t, .nilIface]) (by simp [results, Tryz.results93, go_sem]) rfl (.inl ⟨t, _, rfl, rfl, C3, K2.trans K3⟩)
  · dsimp only
    go_wp2_with fail
    refine (place_leaf i _).mono ?_
    rintro r w3 ⟨rfl, hw3⟩
    rw [hw3]
    clear hw3
    dsimp only
    go_wp2_with fail
    refine (faultAt_at i _ _ _).mono ?_
    rintro r w4 ⟨rfl, R4, hb4⟩
    dsimp only
    go_wp2_with fail
    exact bodyPost_ret (v := .tuple #[.int .i64 0, .iface 97 (.pointer (some ⟨w2.heap.size, 0, none⟩))]) (by simp [results, Tryz.results93, go_sem]) rfl (.inr ⟨(c, i), _, rfl, rfl, R4, K2.low.trans (hb4.mono (Nat.le_trans hBw hb2.size))⟩)

end Go.Proofs.YtddpcehgopeklaaGreatDoor

namespace Go.Proofs.YtddpcehgopeklaaGreatDoor
open Go.RowKit
set_option linter.unusedVariables false

set_option maxHeartbeats 3200000 in
set_option maxRecDepth 100000 in
theorem typeX_un (aT aN aA : Addr) (B cb : Nat) (ts : List Int) (mb : Nat) (D : List Dc) (lv : Value) (w0 : World) (i op : Int) (f : List Int → Option Int) (t1 : TypeId) (u1 : Value) (o1 : Rs) (ys1 : List Int) (i1 : inX o1) (V1 : Hid (TxV aT aN aA B cb ts mb D lv w0 (.iface t1 u1) o1 ys1))
    (HA : Hid (∀ tt tv w ka kc a1, Below B w0 w → Ck B cb ts tt (.map (some mb)) lv tv w → Ints w ka 1 kc [a1] → (1 ≤ a1 ∧ a1 ≤ 4) → Calls Tryz.prog 113 #[.pointer (some ⟨cb, 0, none⟩), .iface 168 (.agg #[.int .i64 i, .int .i64 op, .iface t1 u1]), .slice ka 1 kc] w fun r w' => OtAns (f [a1]) aT r ∧ Below w.heap.size w w')) :
    TxV aT aN aA B cb ts mb D lv w0 (.iface 168 (.agg #[.int .i64 i, .int .i64 op, .iface t1 u1])) (o1.bind fun a1 => ofO (9, i) (f [a1])) (ys1 ++ [gX (o1.bind fun a1 => ofO (9, i) (f [a1]))]) := by
  intro tt tv w hw hC hM hz
  have HM := hide hM
  have HC0 := hide hC
  clear hM
  have hk := kids_un i op t1 u1
  have hp := place_un i op t1 u1
  have Hk := hide (kids_of_un i op t1 u1)
  have Hp := hide (place_of_un i op t1 u1)
  have Hw := hide hw
  have hcb := hC.row.lt
  have hBw : B ≤ w.heap.size := by have := hC.low; omega
  have hlt := hC.types.lt
  have hll := hC.lets.lt
  simp only [List.length_append, List.length_cons, List.length_nil] at hz
  obtain ⟨ii, hii, ez0, ez1, ez2⟩ := info_parts infoI
  clear hw
  go_enter Tryz.func93, Tryz.ntmps93
  go_wp2_with fail
  refine (unhide Hk _).mono ?_
  rintro r w1 ⟨g, rfl, hg, R1, hb1⟩
  have C1 := hC.below hb1
  have K1 : Kt B cb tv w tv w1 := Kt.of_all hb1 hBw
  have gne : g ≠ cb := by omega
  have gl := R1.lt
  have gtv : tv.ownBlock ≠ some g := fun e => by have := (hlt g e).2; omega
  have z1 := hb1.size
  clear hb1
  dsimp only
  go_wp2_with fail
  refine wp_loop_rounds 2 ?_
  rw [rounds_succ]
  have X0 : Kx B cb g w tv ts tt (.map (some mb)) lv tv (.slice none 0 0) [] #[.iface t1 u1] w1 := ⟨C1, K1, R1, World.ownsRow_nil _ _ _ _, hBw, hcb, fun q hq => (hll q hq).2, hg, gtv, fun q hq => by cases hq⟩
  clear C1 K1 R1 gtv
  have c1 : w1.cell? ⟨g, 0, none⟩ = some (.iface t1 u1) := X0.R.cell 0
  go_wp2_with fail
  refine (unhide V1 tt tv _ ((unhide Hw).trans X0.K.low) X0.C ((unhide HM).kt (unhide HC0) X0.K) (by (try simp only [List.length_append]); omega)).mono ?_
  rintro r wa1 (⟨a1, tv1, rfl, rfl, Cz1, Kz1⟩ | ⟨fe, ge, rfl, rfl, hee, hbz⟩)
  rotate_left
  · dsimp only
    go_wp2_with fail
    exact bodyPost_ret (v := .tuple #[.int .i64 0, .iface 97 (.pointer (some ⟨ge, 0, none⟩))]) (by simp [results, Tryz.results93, go_sem]) rfl (.inr ⟨fe, ge, rfl, rfl, hee, X0.K.low.trans hbz⟩)
  have Y1 := X0.call Cz1 Kz1
  have ha1 := i1 a1 rfl
  have zl1 : B ≤ wa1.heap.size := Nat.le_trans hBw Y1.K.low.size
  clear X0 c1 Cz1 Kz1
  dsimp only
  go_wp2_with (at_builtin; refine wpList_append_lies _ rfl _ _ 29 rfl B 3 ii (.int .i64 0) 1 8 Tryz.underlying29 hii ez0 ez1 ez2 rfl (by decide) _ _ _ rfl (World.ownsRow.alloc Y1.O _) ⟨wa1.heap.size, 0, none⟩ 1 1 [.int .i64 a1] rfl rfl ?c1 ?c2 (by decide) ?c3 ?c4 ?c5 (wa1.heap.size + 1) (by simp) ?_)
  case c1 => exact one_cell _ _ _ _ (by simp)
  case c2 => intro u hu; simp at hu; subst hu; rfl
  case c3 => unfold maxLen; simp
  case c4 => simp
  case c5 => simp; omega
  intro gk1 cap1 wb1 Ok1 hgrow1 hat1 hgl1
  have X1 := Y1.app Ok1 hgrow1 hat1
  clear Y1 Ok1 hgrow1 hat1 hgl1
  go_wp2_with fail
  rw [rounds_succ]
  go_wp2_with fail
  refine (unhide HA _ _ _ _ _ a1 ((unhide Hw).trans X1.K.low) X1.C (ints_of_row (n := 1) (L := [a1]) X1.O (by decide)) ha1).mono ?_
  rintro r w2 ⟨hr, hb2⟩
  have C2 := X1.C.below hb2
  obtain ⟨tz, htz⟩ : ∃ tz, tz = tt ++ ys1 := ⟨_, rfl⟩
  rw [← htz] at C2
  have hzl : tz.length ≤ 3999 := by rw [htz]; simp only [List.length_append]; omega
  have HT := hide htz
  clear htz
  have hBx : B ≤ wb1.heap.size := Nat.le_trans hBw X1.K.low.size
  have K2 : Kt B cb tv w tv1 w2 := X1.K.trans (Kt.of_all hb2 hBx)
  rcases ot_cases hr with ⟨t, hf, rfl⟩ | ⟨hf, rfl⟩
  · have c2 : w2.cell? ⟨cb, 2, none⟩ = some tv1 := C2.row.cell 2
    have HO := hide hf
    clear hf
    obtain ⟨xv, kv, rfl, _⟩ := owns_form2 C2.types
    dsimp only
    go_wp2_with (at_builtin; refine wpList_append_lies _ rfl _ _ 29 rfl B 3 ii (.int .i64 0) 1 8 Tryz.underlying29 hii ez0 ez1 ez2 rfl (by decide) _ _ _ rfl (World.ownsRow.alloc C2.types _) ⟨w2.heap.size, 0, none⟩ 1 1 [.int .i64 t] rfl rfl ?c1 ?c2 (by decide) ?c3 ?c4 ?c5 (w2.heap.size + 1) (by simp) ?_)
    case c1 => exact one_cell _ _ _ _ (by simp)
    case c2 => intro u hu; simp at hu; subst hu; rfl
    case c3 => unfold maxLen; omega
    case c4 => omega
    case c5 => have := hb2.size; simp; omega
    intro gz capz w3 O3 hgrow hat hgl
    obtain ⟨R3, C3, K3⟩ := C2.push (Nat.le_trans hBx hb2.size) O3 hgrow hat
    have d2 : w3.cell? ⟨cb, 2, none⟩ = some _ := R3.cell 2
    have df := R3.frozen 2
    go_wp2_with fail
    refine bodyPost_ret (v := .tuple #[.int .i64 t, .nilIface]) (by simp [results, Tryz.results93, go_sem]) rfl (.inl ⟨t, _, (by show ofO (9, i) (f [a1]) = _; rw [unhide HO]; rfl), rfl, ?_, K2.trans K3⟩)
    have eO : gX (Except.bind (.ok a1) fun a1 => ofO (9, i) (f [a1])) = t := by show gX (ofO (9, i) (f [a1])) = t; rw [unhide HO]; rfl
    rw [eO]
    have eT : tt ++ (ys1 ++ [t]) = tz ++ [t] := by rw [unhide HT]; simp only [List.append_assoc]
    rw [eT]
    exact C3
  · have HO := hide hf
    clear hf
    dsimp only
    go_wp2_with fail
    refine (unhide Hp _).mono ?_
    rintro r w3 ⟨rfl, hb3⟩
    dsimp only
    go_wp2_with fail
    refine (faultAt_at i _ _ _).mono ?_
    rintro r w4 ⟨rfl, R4, hb4⟩
    dsimp only
    go_wp2_with fail
    exact bodyPost_ret (v := .tuple #[.int .i64 0, .iface 97 (.pointer (some ⟨w3.heap.size, 0, none⟩))]) (by simp [results, Tryz.results93, go_sem]) rfl (.inr ⟨(9, i), _, (by show ofO (9, i) (f [a1]) = _; rw [unhide HO]; rfl), rfl, R4, (K2.low.trans (hb3.mono (Nat.le_trans hBx hb2.size))).trans (hb4.mono (Nat.le_trans (Nat.le_trans hBx hb2.size) hb3.size))⟩)

set_option maxHeartbeats 3200000 in
set_option maxRecDepth 100000 in
theorem typeX_bin (aT aN aA : Addr) (B cb : Nat) (ts : List Int) (mb : Nat) (D : List Dc) (lv : Value) (w0 : World) (i op : Int) (f : List Int → Option Int) (t1 : TypeId) (u1 : Value) (o1 : Rs) (ys1 : List Int) (i1 : inX o1) (V1 : Hid (TxV aT aN aA B cb ts mb D lv w0 (.iface t1 u1) o1 ys1)) (t2 : TypeId) (u2 : Value) (o2 : Rs) (ys2 : List Int) (i2 : inX o2) (V2 : Hid (TxV aT aN aA B cb ts mb D lv w0 (.iface t2 u2) o2 ys2))
    (HA : Hid (∀ tt tv w ka kc a1 a2, Below B w0 w → Ck B cb ts tt (.map (some mb)) lv tv w → Ints w ka 2 kc [a1, a2] → (1 ≤ a1 ∧ a1 ≤ 4) → (1 ≤ a2 ∧ a2 ≤ 4) → Calls Tryz.prog 113 #[.pointer (some ⟨cb, 0, none⟩), .iface 170 (.agg #[.int .i64 i, .int .i64 op, .iface t1 u1, .iface t2 u2]), .slice ka 2 kc] w fun r w' => OtAns (f [a1, a2]) aT r ∧ Below w.heap.size w w')) :
    TxV aT aN aA B cb ts mb D lv w0 (.iface 170 (.agg #[.int .i64 i, .int .i64 op, .iface t1 u1, .iface t2 u2])) (o1.bind fun a1 => o2.bind fun a2 => ofO (9, i) (f [a1, a2])) (ys1 ++ ys2 ++ [gX (o1.bind fun a1 => o2.bind fun a2 => ofO (9, i) (f [a1, a2]))]) := by
  intro tt tv w hw hC hM hz
  have HM := hide hM
  have HC0 := hide hC
  clear hM
  have hk := kids_bin i op t1 u1 t2 u2
  have hp := place_bin i op t1 u1 t2 u2
  have Hk := hide (kids_of_bin i op t1 u1 t2 u2)
  have Hp := hide (place_of_bin i op t1 u1 t2 u2)
  have Hw := hide hw
  have hcb := hC.row.lt
  have hBw : B ≤ w.heap.size := by have := hC.low; omega
  have hlt := hC.types.lt
  have hll := hC.lets.lt
  simp only [List.length_append, List.length_cons, List.length_nil] at hz
  obtain ⟨ii, hii, ez0, ez1, ez2⟩ := info_parts infoI
  clear hw
  go_enter Tryz.func93, Tryz.ntmps93
  go_wp2_with fail
  refine (unhide Hk _).mono ?_
  rintro r w1 ⟨g, rfl, hg, R1, hb1⟩
  have C1 := hC.below hb1
  have K1 : Kt B cb tv w tv w1 := Kt.of_all hb1 hBw
  have gne : g ≠ cb := by omega
  have gl := R1.lt
  have gtv : tv.ownBlock ≠ some g := fun e => by have := (hlt g e).2; omega
  have z1 := hb1.size
  clear hb1
  dsimp only
  go_wp2_with fail
  refine wp_loop_rounds 3 ?_
  rw [rounds_succ]
  have X0 : Kx B cb g w tv ts tt (.map (some mb)) lv tv (.slice none 0 0) [] #[.iface t1 u1, .iface t2 u2] w1 := ⟨C1, K1, R1, World.ownsRow_nil _ _ _ _, hBw, hcb, fun q hq => (hll q hq).2, hg, gtv, fun q hq => by cases hq⟩
  clear C1 K1 R1 gtv
  have c1 : w1.cell? ⟨g, 0, none⟩ = some (.iface t1 u1) := X0.R.cell 0
  go_wp2_with fail
  refine (unhide V1 tt tv _ ((unhide Hw).trans X0.K.low) X0.C ((unhide HM).kt (unhide HC0) X0.K) (by (try simp only [List.length_append]); omega)).mono ?_
  rintro r wa1 (⟨a1, tv1, rfl, rfl, Cz1, Kz1⟩ | ⟨fe, ge, rfl, rfl, hee, hbz⟩)
  rotate_left
  · dsimp only
    go_wp2_with fail
    exact bodyPost_ret (v := .tuple #[.int .i64 0, .iface 97 (.pointer (some ⟨ge, 0, none⟩))]) (by simp [results, Tryz.results93, go_sem]) rfl (.inr ⟨fe, ge, rfl, rfl, hee, X0.K.low.trans hbz⟩)
  have Y1 := X0.call Cz1 Kz1
  have ha1 := i1 a1 rfl
  have zl1 : B ≤ wa1.heap.size := Nat.le_trans hBw Y1.K.low.size
  clear X0 c1 Cz1 Kz1
  dsimp only
  go_wp2_with (at_builtin; refine wpList_append_lies _ rfl _ _ 29 rfl B 3 ii (.int .i64 0) 1 8 Tryz.underlying29 hii ez0 ez1 ez2 rfl (by decide) _ _ _ rfl (World.ownsRow.alloc Y1.O _) ⟨wa1.heap.size, 0, none⟩ 1 1 [.int .i64 a1] rfl rfl ?c1 ?c2 (by decide) ?c3 ?c4 ?c5 (wa1.heap.size + 1) (by simp) ?_)
  case c1 => exact one_cell _ _ _ _ (by simp)
  case c2 => intro u hu; simp at hu; subst hu; rfl
  case c3 => unfold maxLen; simp
  case c4 => simp
  case c5 => simp; omega
  intro gk1 cap1 wb1 Ok1 hgrow1 hat1 hgl1
  have X1 := Y1.app Ok1 hgrow1 hat1
  clear Y1 Ok1 hgrow1 hat1 hgl1
  go_wp2_with fail
  have c2 : wb1.cell? ⟨g, 1, none⟩ = some (.iface t2 u2) := X1.R.cell 1
  rw [rounds_succ]
  go_wp2_with fail
  refine (unhide V2 (tt ++ ys1) tv1 _ ((unhide Hw).trans X1.K.low) X1.C ((unhide HM).kt (unhide HC0) X1.K) (by (try simp only [List.length_append]); omega)).mono ?_
  rintro r wa2 (⟨a2, tv2, rfl, rfl, Cz2, Kz2⟩ | ⟨fe, ge, rfl, rfl, hee, hbz⟩)
  rotate_left
  · dsimp only
    go_wp2_with fail
    exact bodyPost_ret (v := .tuple #[.int .i64 0, .iface 97 (.pointer (some ⟨ge, 0, none⟩))]) (by simp [results, Tryz.results93, go_sem]) rfl (.inr ⟨fe, ge, rfl, rfl, hee, X1.K.low.trans hbz⟩)
  have Y2 := X1.call Cz2 Kz2
  have ha2 := i2 a2 rfl
  have zl2 : B ≤ wa2.heap.size := Nat.le_trans hBw Y2.K.low.size
  clear X1 c2 Cz2 Kz2
  obtain ⟨xk2, ck2, hkf2, _⟩ := owns_form2 Y2.O
  dsimp only
  go_wp2_with (at_builtin; refine wpList_append_lies _ rfl _ _ 29 rfl B 3 ii (.int .i64 0) 1 8 Tryz.underlying29 hii ez0 ez1 ez2 rfl (by decide) _ _ _ rfl (World.ownsRow.alloc Y2.O _) ⟨wa2.heap.size, 0, none⟩ 1 1 [.int .i64 a2] rfl rfl ?c1 ?c2 (by decide) ?c3 ?c4 ?c5 (wa2.heap.size + 1) (by simp) ?_)
  case c1 => exact one_cell _ _ _ _ (by simp)
  case c2 => intro u hu; simp at hu; subst hu; rfl
  case c3 => unfold maxLen; simp
  case c4 => simp
  case c5 => simp; omega
  intro gk2 cap2 wb2 Ok2 hgrow2 hat2 hgl2
  have X2 := Y2.app Ok2 hgrow2 hat2
  clear Y2 Ok2 hgrow2 hat2 hgl2
  go_wp2_with fail
  rw [rounds_succ]
  go_wp2_with fail
  refine (unhide HA _ _ _ _ _ a1 a2 ((unhide Hw).trans X2.K.low) X2.C (ints_of_row (n := 2) (L := [a1, a2]) X2.O (by decide)) ha1 ha2).mono ?_
  rintro r w2 ⟨hr, hb2⟩
  have C2 := X2.C.below hb2
  obtain ⟨tz, htz⟩ : ∃ tz, tz = tt ++ ys1 ++ ys2 := ⟨_, rfl⟩
  rw [← htz] at C2
  have hzl : tz.length ≤ 3999 := by rw [htz]; simp only [List.length_append]; omega
  have HT := hide htz
  clear htz
  have hBx : B ≤ wb2.heap.size := Nat.le_trans hBw X2.K.low.size
  have K2 : Kt B cb tv w tv2 w2 := X2.K.trans (Kt.of_all hb2 hBx)
  rcases ot_cases hr with ⟨t, hf, rfl⟩ | ⟨hf, rfl⟩
  · have c2 : w2.cell? ⟨cb, 2, none⟩ = some tv2 := C2.row.cell 2
    have HO := hide hf
    clear hf
    obtain ⟨xv, kv, rfl, _⟩ := owns_form2 C2.types
    dsimp only
    go_wp2_with (at_builtin; refine wpList_append_lies _ rfl _ _ 29 rfl B 3 ii (.int .i64 0) 1 8 Tryz.underlying29 hii ez0 ez1 ez2 rfl (by decide) _ _ _ rfl (World.ownsRow.alloc C2.types _) ⟨w2.heap.size, 0, none⟩ 1 1 [.int .i64 t] rfl rfl ?c1 ?c2 (by decide) ?c3 ?c4 ?c5 (w2.heap.size + 1) (by simp) ?_)
    case c1 => exact one_cell _ _ _ _ (by simp)
    case c2 => intro u hu; simp at hu; subst hu; rfl
    case c3 => unfold maxLen; omega
    case c4 => omega
    case c5 => have := hb2.size; simp; omega
    intro gz capz w3 O3 hgrow hat hgl
    obtain ⟨R3, C3, K3⟩ := C2.push (Nat.le_trans hBx hb2.size) O3 hgrow hat
    have d2 : w3.cell? ⟨cb, 2, none⟩ = some _ := R3.cell 2
    have df := R3.frozen 2
    go_wp2_with fail
    refine bodyPost_ret (v := .tuple #[.int .i64 t, .nilIface]) (by simp [results, Tryz.results93, go_sem]) rfl (.inl ⟨t, _, (by show ofO (9, i) (f [a1, a2]) = _; rw [unhide HO]; rfl), rfl, ?_, K2.trans K3⟩)
    have eO : gX (Except.bind (.ok a1) fun a1 => Except.bind (.ok a2) fun a2 => ofO (9, i) (f [a1, a2])) = t := by show gX (ofO (9, i) (f [a1, a2])) = t; rw [unhide HO]; rfl
    rw [eO]
    have eT : tt ++ (ys1 ++ ys2 ++ [t]) = tz ++ [t] := by rw [unhide HT]; simp only [List.append_assoc]
    rw [eT]
    exact C3
  · have HO := hide hf
    clear hf
    dsimp only
    go_wp2_with fail
    refine (unhide Hp _).mono ?_
    rintro r w3 ⟨rfl, hb3⟩
    dsimp only
    go_wp2_with fail
    refine (faultAt_at i _ _ _).mono ?_
    rintro r w4 ⟨rfl, R4, hb4⟩
    dsimp only
    go_wp2_with fail
    exact bodyPost_ret (v := .tuple #[.int .i64 0, .iface 97 (.pointer (some ⟨w3.heap.size, 0, none⟩))]) (by simp [results, Tryz.results93, go_sem]) rfl (.inr ⟨(9, i), _, (by show ofO (9, i) (f [a1, a2]) = _; rw [unhide HO]; rfl), rfl, R4, (K2.low.trans (hb3.mono (Nat.le_trans hBx hb2.size))).trans (hb4.mono (Nat.le_trans (Nat.le_trans hBx hb2.size) hb3.size))⟩)

set_option maxHeartbeats 3200000 in
set_option maxRecDepth 100000 in
theorem typeX_ite (aT aN aA : Addr) (B cb : Nat) (ts : List Int) (mb : Nat) (D : List Dc) (lv : Value) (w0 : World) (i : Int) (f : List Int → Option Int) (t1 : TypeId) (u1 : Value) (o1 : Rs) (ys1 : List Int) (i1 : inX o1) (V1 : Hid (TxV aT aN aA B cb ts mb D lv w0 (.iface t1 u1) o1 ys1)) (t2 : TypeId) (u2 : Value) (o2 : Rs) (ys2 : List Int) (i2 : inX o2) (V2 : Hid (TxV aT aN aA B cb ts mb D lv w0 (.iface t2 u2) o2 ys2)) (t3 : TypeId) (u3 : Value) (o3 : Rs) (ys3 : List Int) (i3 : inX o3) (V3 : Hid (TxV aT aN aA B cb ts mb D lv w0 (.iface t3 u3) o3 ys3))
    (HA : Hid (∀ tt tv w ka kc a1 a2 a3, Below B w0 w → Ck B cb ts tt (.map (some mb)) lv tv w → Ints w ka 3 kc [a1, a2, a3] → (1 ≤ a1 ∧ a1 ≤ 4) → (1 ≤ a2 ∧ a2 ≤ 4) → (1 ≤ a3 ∧ a3 ≤ 4) → Calls Tryz.prog 113 #[.pointer (some ⟨cb, 0, none⟩), .iface 172 (.agg #[.int .i64 i, .iface t1 u1, .iface t2 u2, .iface t3 u3]), .slice ka 3 kc] w fun r w' => OtAns (f [a1, a2, a3]) aT r ∧ Below w.heap.size w w')) :
    TxV aT aN aA B cb ts mb D lv w0 (.iface 172 (.agg #[.int .i64 i, .iface t1 u1, .iface t2 u2, .iface t3 u3])) (o1.bind fun a1 => o2.bind fun a2 => o3.bind fun a3 => ofO (9, i) (f [a1, a2, a3])) (ys1 ++ ys2 ++ ys3 ++ [gX (o1.bind fun a1 => o2.bind fun a2 => o3.bind fun a3 => ofO (9, i) (f [a1, a2, a3]))]) := by
  intro tt tv w hw hC hM hz
  have HM := hide hM
  have HC0 := hide hC
  clear hM
  have hk := kids_ite i t1 u1 t2 u2 t3 u3
  have hp := place_ite i t1 u1 t2 u2 t3 u3
  have Hk := hide (kids_of_ite i t1 u1 t2 u2 t3 u3)
  have Hp := hide (place_of_ite i t1 u1 t2 u2 t3 u3)
  have Hw := hide hw
  have hcb := hC.row.lt
  have hBw : B ≤ w.heap.size := by have := hC.low; omega
  have hlt := hC.types.lt
  have hll := hC.lets.lt
  simp only [List.length_append, List.length_cons, List.length_nil] at hz
  obtain ⟨ii, hii, ez0, ez1, ez2⟩ := info_parts infoI
  clear hw
  go_enter Tryz.func93, Tryz.ntmps93
  go_wp2_with fail
  refine (unhide Hk _).mono ?_
  rintro r w1 ⟨g, rfl, hg, R1, hb1⟩
  have C1 := hC.below hb1
  have K1 : Kt B cb tv w tv w1 := Kt.of_all hb1 hBw
  have gne : g ≠ cb := by omega
  have gl := R1.lt
  have gtv : tv.ownBlock ≠ some g := fun e => by have := (hlt g e).2; omega
  have z1 := hb1.size
  clear hb1
  dsimp only
  go_wp2_with fail
  refine wp_loop_rounds 4 ?_
  rw [rounds_succ]
  have X0 : Kx B cb g w tv ts tt (.map (some mb)) lv tv (.slice none 0 0) [] #[.iface t1 u1, .iface t2 u2, .iface t3 u3] w1 := ⟨C1, K1, R1, World.ownsRow_nil _ _ _ _, hBw, hcb, fun q hq => (hll q hq).2, hg, gtv, fun q hq => by cases hq⟩
  clear C1 K1 R1 gtv
  have c1 : w1.cell? ⟨g, 0, none⟩ = some (.iface t1 u1) := X0.R.cell 0
  go_wp2_with fail
  refine (unhide V1 tt tv _ ((unhide Hw).trans X0.K.low) X0.C ((unhide HM).kt (unhide HC0) X0.K) (by (try simp only [List.length_append]); omega)).mono ?_
  rintro r wa1 (⟨a1, tv1, rfl, rfl, Cz1, Kz1⟩ | ⟨fe, ge, rfl, rfl, hee, hbz⟩)
  rotate_left
  · dsimp only
    go_wp2_with fail
    exact bodyPost_ret (v := .tuple #[.int .i64 0, .iface 97 (.pointer (some ⟨ge, 0, none⟩))]) (by simp [results, Tryz.results93, go_sem]) rfl (.inr ⟨fe, ge, rfl, rfl, hee, X0.K.low.trans hbz⟩)
  have Y1 := X0.call Cz1 Kz1
  have ha1 := i1 a1 rfl
  have zl1 : B ≤ wa1.heap.size := Nat.le_trans hBw Y1.K.low.size
  clear X0 c1 Cz1 Kz1
  dsimp only
  go_wp2_with (at_builtin; refine wpList_append_lies _ rfl _ _ 29 rfl B 3 ii (.int .i64 0) 1 8 Tryz.underlying29 hii ez0 ez1 ez2 rfl (by decide) _ _ _ rfl (World.ownsRow.alloc Y1.O _) ⟨wa1.heap.size, 0, none⟩ 1 1 [.int .i64 a1] rfl rfl ?c1 ?c2 (by decide) ?c3 ?c4 ?c5 (wa1.heap.size + 1) (by simp) ?_)
  case c1 => exact one_cell _ _ _ _ (by simp)
  case c2 => intro u hu; simp at hu; subst hu; rfl
  case c3 => unfold maxLen; simp
  case c4 => simp
  case c5 => simp; omega
  intro gk1 cap1 wb1 Ok1 hgrow1 hat1 hgl1
  have X1 := Y1.app Ok1 hgrow1 hat1
  clear Y1 Ok1 hgrow1 hat1 hgl1
  go_wp2_with fail
  have c2 : wb1.cell? ⟨g, 1, none⟩ = some (.iface t2 u2) := X1.R.cell 1
  rw [rounds_succ]
  go_wp2_with fail
  refine (unhide V2 (tt ++ ys1) tv1 _ ((unhide Hw).trans X1.K.low) X1.C ((unhide HM).kt (unhide HC0) X1.K) (by (try simp only [List.length_append]); omega)).mono ?_
  rintro r wa2 (⟨a2, tv2, rfl, rfl, Cz2, Kz2⟩ | ⟨fe, ge, rfl, rfl, hee, hbz⟩)
  rotate_left
  · dsimp only
    go_wp2_with fail
    exact bodyPost_ret (v := .tuple #[.int .i64 0, .iface 97 (.pointer (some ⟨ge, 0, none⟩))]) (by simp [results, Tryz.results93, go_sem]) rfl (.inr ⟨fe, ge, rfl, rfl, hee, X1.K.low.trans hbz⟩)
  have Y2 := X1.call Cz2 Kz2
  have ha2 := i2 a2 rfl
  have zl2 : B ≤ wa2.heap.size := Nat.le_trans hBw Y2.K.low.size
  clear X1 c2 Cz2 Kz2
  obtain ⟨xk2, ck2, hkf2, _⟩ := owns_form2 Y2.O
  dsimp only
  go_wp2_with (at_builtin; refine wpList_append_lies _ rfl _ _ 29 rfl B 3 ii (.int .i64 0) 1 8 Tryz.underlying29 hii ez0 ez1 ez2 rfl (by decide) _ _ _ rfl (World.ownsRow.alloc Y2.O _) ⟨wa2.heap.size, 0, none⟩ 1 1 [.int .i64 a2] rfl rfl ?c1 ?c2 (by decide) ?c3 ?c4 ?c5 (wa2.heap.size + 1) (by simp) ?_)
  case c1 => exact one_cell _ _ _ _ (by simp)
  case c2 => intro u hu; simp at hu; subst hu; rfl
  case c3 => unfold maxLen; simp
  case c4 => simp
  case c5 => simp; omega
  intro gk2 cap2 wb2 Ok2 hgrow2 hat2 hgl2
  have X2 := Y2.app Ok2 hgrow2 hat2
  clear Y2 Ok2 hgrow2 hat2 hgl2
  go_wp2_with fail
  have c3 : wb2.cell? ⟨g, 2, none⟩ = some (.iface t3 u3) := X2.R.cell 2
  rw [rounds_succ]
  go_wp2_with fail
  refine (unhide V3 ((tt ++ ys1) ++ ys2) tv2 _ ((unhide Hw).trans X2.K.low) X2.C ((unhide HM).kt (unhide HC0) X2.K) (by (try simp only [List.length_append]); omega)).mono ?_
  rintro r wa3 (⟨a3, tv3, rfl, rfl, Cz3, Kz3⟩ | ⟨fe, ge, rfl, rfl, hee, hbz⟩)
  rotate_left
  · dsimp only
    go_wp2_with fail
    exact bodyPost_ret (v := .tuple #[.int .i64 0, .iface 97 (.pointer (some ⟨ge, 0, none⟩))]) (by simp [results, Tryz.results93, go_sem]) rfl (.inr ⟨fe, ge, rfl, rfl, hee, X2.K.low.trans hbz⟩)
  have Y3 := X2.call Cz3 Kz3
  have ha3 := i3 a3 rfl
  have zl3 : B ≤ wa3.heap.size := Nat.le_trans hBw Y3.K.low.size
  clear X2 c3 Cz3 Kz3
  obtain ⟨xk3, ck3, hkf3, _⟩ := owns_form2 Y3.O
  dsimp only
  go_wp2_with (at_builtin; refine wpList_append_lies _ rfl _ _ 29 rfl B 3 ii (.int .i64 0) 1 8 Tryz.underlying29 hii ez0 ez1 ez2 rfl (by decide) _ _ _ rfl (World.ownsRow.alloc Y3.O _) ⟨wa3.heap.size, 0, none⟩ 1 1 [.int .i64 a3] rfl rfl ?c1 ?c2 (by decide) ?c3 ?c4 ?c5 (wa3.heap.size + 1) (by simp) ?_)
  case c1 => exact one_cell _ _ _ _ (by simp)
  case c2 => intro u hu; simp at hu; subst hu; rfl
  case c3 => unfold maxLen; simp
  case c4 => simp
  case c5 => simp; omega
  intro gk3 cap3 wb3 Ok3 hgrow3 hat3 hgl3
  have X3 := Y3.app Ok3 hgrow3 hat3
  clear Y3 Ok3 hgrow3 hat3 hgl3
  go_wp2_with fail
  rw [rounds_succ]
  go_wp2_with fail
  refine (unhide HA _ _ _ _ _ a1 a2 a3 ((unhide Hw).trans X3.K.low) X3.C (ints_of_row (n := 3) (L := [a1, a2, a3]) X3.O (by decide)) ha1 ha2 ha3).mono ?_
  rintro r w2 ⟨hr, hb2⟩
  have C2 := X3.C.below hb2
  obtain ⟨tz, htz⟩ : ∃ tz, tz = tt ++ ys1 ++ ys2 ++ ys3 := ⟨_, rfl⟩
  rw [← htz] at C2
  have hzl : tz.length ≤ 3999 := by rw [htz]; simp only [List.length_append]; omega
  have HT := hide htz
  clear htz
  have hBx : B ≤ wb3.heap.size := Nat.le_trans hBw X3.K.low.size
  have K2 : Kt B cb tv w tv3 w2 := X3.K.trans (Kt.of_all hb2 hBx)
  rcases ot_cases hr with ⟨t, hf, rfl⟩ | ⟨hf, rfl⟩
  · have c2 : w2.cell? ⟨cb, 2, none⟩ = some tv3 := C2.row.cell 2
    have HO := hide hf
    clear hf
    obtain ⟨xv, kv, rfl, _⟩ := owns_form2 C2.types
    dsimp only
    go_wp2_with (at_builtin; refine wpList_append_lies _ rfl _ _ 29 rfl B 3 ii (.int .i64 0) 1 8 Tryz.underlying29 hii ez0 ez1 ez2 rfl (by decide) _ _ _ rfl (World.ownsRow.alloc C2.types _) ⟨w2.heap.size, 0, none⟩ 1 1 [.int .i64 t] rfl rfl ?c1 ?c2 (by decide) ?c3 ?c4 ?c5 (w2.heap.size + 1) (by simp) ?_)
    case c1 => exact one_cell _ _ _ _ (by simp)
    case c2 => intro u hu; simp at hu; subst hu; rfl
    case c3 => unfold maxLen; omega
    case c4 => omega
    case c5 => have := hb2.size; simp; omega
    intro gz capz w3 O3 hgrow hat hgl
    obtain ⟨R3, C3, K3⟩ := C2.push (Nat.le_trans hBx hb2.size) O3 hgrow hat
    have d2 : w3.cell? ⟨cb, 2, none⟩ = some _ := R3.cell 2
    have df := R3.frozen 2
    go_wp2_with fail
    refine bodyPost_ret (v := .tuple #[.int .i64 t, .nilIface]) (by simp [results, Tryz.results93, go_sem]) rfl (.inl ⟨t, _, (by show ofO (9, i) (f [a1, a2, a3]) = _; rw [unhide HO]; rfl), rfl, ?_, K2.trans K3⟩)
    have eO : gX (Except.bind (.ok a1) fun a1 => Except.bind (.ok a2) fun a2 => Except.bind (.ok a3) fun a3 => ofO (9, i) (f [a1, a2, a3])) = t := by show gX (ofO (9, i) (f [a1, a2, a3])) = t; rw [unhide HO]; rfl
    rw [eO]
    have eT : tt ++ (ys1 ++ ys2 ++ ys3 ++ [t]) = tz ++ [t] := by rw [unhide HT]; simp only [List.append_assoc]
    rw [eT]
    exact C3
  · have HO := hide hf
    clear hf
    dsimp only
    go_wp2_with fail
    refine (unhide Hp _).mono ?_
    rintro r w3 ⟨rfl, hb3⟩
    dsimp only
    go_wp2_with fail
    refine (faultAt_at i _ _ _).mono ?_
    rintro r w4 ⟨rfl, R4, hb4⟩
    dsimp only
    go_wp2_with fail
    exact bodyPost_ret (v := .tuple #[.int .i64 0, .iface 97 (.pointer (some ⟨w3.heap.size, 0, none⟩))]) (by simp [results, Tryz.results93, go_sem]) rfl (.inr ⟨(9, i), _, (by show ofO (9, i) (f [a1, a2, a3]) = _; rw [unhide HO]; rfl), rfl, R4, (K2.low.trans (hb3.mono (Nat.le_trans hBx hb2.size))).trans (hb4.mono (Nat.le_trans (Nat.le_trans hBx hb2.size) hb3.size))⟩)

end Go.Proofs.YtddpcehgopeklaaGreatDoor

namespace Go.Proofs.YtddpcehgopeklaaGreatDoor
open Go.RowKit
set_option linter.unusedVariables false

theorem inX_bind {o : Rs} {f : Int → Rs} (h : ∀ a, o = .ok a → inX (f a)) : inX (o.bind f) := by
  cases o with
  | error e => intro a k; cases k
  | ok a => exact h a rfl

theorem tyX_in {K : List Dc} (h : ∀ d ∈ K, 1 ≤ d.typ ∧ d.typ ≤ 4) : ∀ (e : Ex), inX (tyX K e)
  | .int .., a, k => by cases k; omega
  | .text .., a, k => by cases k; omega
  | .bool .., a, k => by cases k; omega
  | .set .., a, k => by cases k; omega
  | .name i s, a, k => ofO_in (f := (7, i)) (o := (fnd K s).map Dc.typ) (fun b e => by
      cases hf : fnd K s with
      | none => rw [hf] at e; cases e
      | some d => rw [hf] at e; cases e; exact h d (fnd_mem hf).1) a k
  | .attr .., a, k => by cases k
  | .lett .., a, k => by cases k
  | .un i op e, a, k => inX_bind (fun b _ => ofO_in (tyOp1_in op b)) a k
  | .bin i op e f, a, k => inX_bind (fun b _ => inX_bind (fun c _ => ofO_in (tyOp2_in op b c))) a k
  | .ite i e f g, a, k => inX_bind (fun b _ => inX_bind (fun c hc => inX_bind (fun d _ => ofO_in (tyOp3_in b c d (tyX_in h f c hc))))) a k

theorem typeX_any (aT aN aA : Addr) (B cb : Nat) (ts : List Int) (mb : Nat) (D : List Dc) (lv : Value) (w0 : World) (hV : Vok w0 aT) (hE : Eok w0 aN aA) (hB : w0.heap.size ≤ B) (hts : ∀ d ∈ D, 1 ≤ d.typ ∧ d.typ ≤ 4) : ∀ (e : Ex), e.written → TxV aT aN aA B cb ts mb D lv w0 e.val (tyX D e) (tysX D e)
  | .int i n, _ => typeX_leaf aT aN aA 9 B cb ts mb D lv w0 _ _ i (some 2) (kids_int i n) (place_int i n) (hide fun tt tv w hw hC _ => (above_int cb i n none 0 0 [] aT aN aA w (hV.below hw hB) (hE.below hw hB) (ints_noneJ w)).mono fun r w' h => ⟨ot_of_ta h.1, h.2⟩)
  | .text i s, _ => typeX_leaf aT aN aA 9 B cb ts mb D lv w0 _ _ i (some 3) (kids_text i s) (place_text i s) (hide fun tt tv w hw hC _ => (above_text cb i s none 0 0 [] aT aN aA w (hV.below hw hB) (hE.below hw hB) (ints_noneJ w)).mono fun r w' h => ⟨ot_of_ta h.1, h.2⟩)
  | .bool i b, _ => typeX_leaf aT aN aA 9 B cb ts mb D lv w0 _ _ i (some 1) (kids_bool i b) (place_bool i b) (hide fun tt tv w hw hC _ => (above_bool cb i b none 0 0 [] aT aN aA w (hV.below hw hB) (hE.below hw hB) (ints_noneJ w)).mono fun r w' h => ⟨ot_of_ta h.1, h.2⟩)
  | .set i a n c ss, _ => typeX_leaf aT aN aA 9 B cb ts mb D lv w0 _ _ i (some 4) (kids_set i a n c) (place_set i a n c) (hide fun tt tv w hw hC _ => (above_set cb i a n c none 0 0 [] aT aN aA w (hV.below hw hB) (hE.below hw hB) (ints_noneJ w)).mono fun r w' h => ⟨ot_of_ta h.1, h.2⟩)
  | .name i s, _ => typeX_leaf aT aN aA 7 B cb ts mb D lv w0 _ _ i ((fnd D s).map Dc.typ) (kids_name i s) (place_name i s) (hide fun tt tv w hw hC hM => above_name cb i s mb D none 0 0 [] aT aN aA w (hV.below hw hB) (hE.below hw hB) (ints_noneJ w) (hC.row.cell 0) hC.row.lt hM)
  | .attr .., h => absurd h id
  | .lett .., h => absurd h id
  | .un i op k, h => by
    have ih := typeX_any aT aN aA B cb ts mb D lv w0 hV hE hB hts k h.2
    obtain ⟨t, u, hv⟩ := k.form
    rw [hv] at ih
    rw [Ex.val, hv, tysX]
    exact typeX_un aT aN aA B cb ts mb D lv w0 i op (fun ks => nz (tyOp op ks)) t u _ _ (tyX_in hts k) (hide ih) (hide fun tt tv w ka kc a hw hC hI ha => aboveX_un cb i op t u ka 1 kc a aT aN aA w (hV.below hw hB) (hE.below hw hB) hI h.1 ha)
  | .bin i op k l, h => by
    have ih1 := typeX_any aT aN aA B cb ts mb D lv w0 hV hE hB hts k h.2.1
    have ih2 := typeX_any aT aN aA B cb ts mb D lv w0 hV hE hB hts l h.2.2
    obtain ⟨t, u, hv⟩ := k.form
    obtain ⟨t', u', hv'⟩ := l.form
    rw [hv] at ih1
    rw [hv'] at ih2
    rw [Ex.val, hv, hv', tysX]
    exact typeX_bin aT aN aA B cb ts mb D lv w0 i op (fun ks => nz (tyOp op ks)) t u _ _ (tyX_in hts k) (hide ih1) t' u' _ _ (tyX_in hts l) (hide ih2) (hide fun tt tv w ka kc a b hw hC hI ha hb => aboveX_bin cb i op t u t' u' ka 2 kc a b aT aN aA w (hV.below hw hB) (hE.below hw hB) hI h.1 ha hb)
  | .ite i k l m, h => by
    have ih1 := typeX_any aT aN aA B cb ts mb D lv w0 hV hE hB hts k h.1
    have ih2 := typeX_any aT aN aA B cb ts mb D lv w0 hV hE hB hts l h.2.1
    have ih3 := typeX_any aT aN aA B cb ts mb D lv w0 hV hE hB hts m h.2.2
    obtain ⟨t, u, hv⟩ := k.form
    obtain ⟨t', u', hv'⟩ := l.form
    obtain ⟨t2, u2, hv2⟩ := m.form
    rw [hv] at ih1
    rw [hv'] at ih2
    rw [hv2] at ih3
    rw [Ex.val, hv, hv', hv2, tysX]
    exact typeX_ite aT aN aA B cb ts mb D lv w0 i (fun ks => nz (tyOp 27 ks)) t u _ _ (tyX_in hts k) (hide ih1) t' u' _ _ (tyX_in hts l) (hide ih2) t2 u2 _ _ (tyX_in hts m) (hide ih3) (hide fun tt tv w ka kc a b d hw hC hI ha hb hd => aboveX_ite cb i t u t' u' t2 u2 ka 3 kc a b d aT aN aA w (hV.below hw hB) (hE.below hw hB) hI hb)

end Go.Proofs.YtddpcehgopeklaaGreatDoor

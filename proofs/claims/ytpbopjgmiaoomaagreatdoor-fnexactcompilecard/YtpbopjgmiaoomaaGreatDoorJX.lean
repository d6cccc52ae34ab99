/-
  The types of trees with kids. Own work.
-/
import Derived.Test.YtpbopjgmiaoomaaGreatDoorMXAM
import Derived.Test.YtpbopjgmiaoomaaGreatDoorMXAL
namespace Go.Proofs.YtpbopjgmiaoomaaGreatDoor
open Go.RowKit
set_option linter.unusedVariables false

theorem Ck.other {B cb : Nat} {ts tt : List Int} {mv lv tv : Value} {w w3 : World} {o : Obj} {row : Option Nat} (h : Ck B cb ts tt mv lv tv w) (hgrow : (w.alloc o).grownBy w3 row) (h1 : row ≠ some cb) (h2 : ∀ q, lv.ownBlock = some q → row ≠ some q) (h3 : ∀ q, tv.ownBlock = some q → row ≠ some q) : Ck B cb ts tt mv lv tv w3 := by
  have za : (w.alloc o).heap.size = w.heap.size + 1 := by simp
  have kb : ∀ k, k < w.heap.size → row ≠ some k → w3.heap[k]? = w.heap[k]? := fun k hk hne => (hgrow.block k (by rw [za]; omega) (fun e => hne e.symm)).trans (Below.heap_alloc w o k hk)
  exact ⟨⟨(kb cb h.row.lt h1).trans h.row.out⟩, owns_blocks2 h.lets (fun q hq => kb q (h.lets.lt q hq).2 (h2 q hq)), owns_blocks2 h.types (fun q hq => kb q (h.types.lt q hq).2 (h3 q hq)), h.low, h.apart⟩

theorem Kt.other {B cb : Nat} {tv tv1 : Value} {w w2 w3 : World} {o : Obj} {row : Option Nat} (K : Kt B cb tv w tv1 w2) (hgrow : (w2.alloc o).grownBy w3 row) (hB : B ≤ w.heap.size) (hr : ∀ q, row = some q → w.heap.size ≤ q) : Kt B cb tv w tv1 w3 := by
  have za : (w2.alloc o).heap.size = w2.heap.size + 1 := by simp
  have zs := K.low.size
  refine ⟨(K.low.alloc (Nat.le_trans hB zs) o).grown hgrow (by rw [za]; omega) (fun q hq => Nat.le_trans hB (hr q hq)), fun k h1 h2 h3 => ?_, K.new⟩
  refine (hgrow.block k (by rw [za]; omega) (fun e => ?_)).trans ((Below.heap_alloc w2 o k (by omega)).trans (K.keep k h1 h2 h3))
  have := hr k e.symm
  omega

/-- a checker at work on a node: the row of its kids, the row of their types so far -/
structure Kx (B cb g : Nat) (w : World) (tv : Value) (ts tt : List Int) (mv lv tv1 kv : Value) (ks : List Int) (vs : Array Value) (w2 : World) : Prop where
  C : Ck B cb ts tt mv lv tv1 w2
  K : Kt B cb tv w tv1 w2
  R : Row w2 g vs 75
  O : w2.ownsRow B 3 1 kv ks.length (intsV ks)
  hB : B ≤ w.heap.size
  cbw : cb < w.heap.size
  lvw : ∀ q, lv.ownBlock = some q → q < w.heap.size
  g0 : w.heap.size ≤ g
  gtv : tv1.ownBlock ≠ some g
  k0 : ∀ q, kv.ownBlock = some q → w.heap.size ≤ q ∧ q ≠ g ∧ tv1.ownBlock ≠ some q

theorem Kx.call {B cb g : Nat} {w w2 w3 : World} {tv tv1 tv2 mv lv kv : Value} {ts tt ys ks : List Int} {vs : Array Value} (h : Kx B cb g w tv ts tt mv lv tv1 kv ks vs w2) (C3 : Ck B cb ts (tt ++ ys) mv lv tv2 w3) (K3 : Kt B cb tv1 w2 tv2 w3) : Kx B cb g w tv ts (tt ++ ys) mv lv tv2 kv ks vs w3 := by
  have hcb := h.cbw
  have hg := h.g0
  refine ⟨C3, h.K.trans K3, K3.row h.R (by omega) h.gtv, owns_blocks2 h.O (fun q hq => ?_), h.hB, hcb, h.lvw, hg, fun e => ?_, fun q hq => ?_⟩
  · obtain ⟨q1, q2, q3⟩ := h.k0 q hq
    exact K3.keep q (h.O.lt q hq).2 (by omega) (fun e => q3 e.symm)
  · rcases K3.new g e with e2 | e2
    · exact h.gtv e2
    · have := h.R.lt; omega
  · obtain ⟨q1, q2, q3⟩ := h.k0 q hq
    refine ⟨q1, q2, fun e => ?_⟩
    rcases K3.new q e with e2 | e2
    · exact q3 e2
    · have := (h.O.lt q hq).2; omega

theorem Kx.app {B cb g : Nat} {w w2 w3 : World} {tv tv1 mv lv kv : Value} {ts tt ks : List Int} {vs : Array Value} {o : Obj} {a : Int} {gk cap : Nat} (h : Kx B cb g w tv ts tt mv lv tv1 kv ks vs w2)
    (Ok : w3.ownsRow B 3 1 (.slice (some ⟨gk, 0, none⟩) (ks.length + 1) cap) (ks.length + 1) (intsV ks ++ [.int .i64 a])) (hgrow : (w2.alloc o).grownBy w3 kv.ownBlock) (hat : kv.ownBlock = some gk ∨ gk = w2.heap.size + 1) :
    Kx B cb g w tv ts tt mv lv tv1 (.slice (some ⟨gk, 0, none⟩) (ks.length + 1) cap) (ks ++ [a]) vs w3 := by
  have hcb := h.cbw
  have hg := h.g0
  have zs := h.K.low.size
  refine ⟨h.C.other hgrow (fun e => ?_) (fun q hq e => ?_) (fun q hq e => ?_), h.K.other hgrow h.hB (fun q hq => (h.k0 q hq).1), (h.R.alloc o).grown hgrow (fun e => ?_), ?_, h.hB, hcb, h.lvw, hg, h.gtv, fun q hq => ?_⟩
  · have := (h.k0 cb e).1; omega
  · have := (h.k0 q e).1; have := h.lvw q hq; omega
  · exact (h.k0 q e).2.2 hq
  · exact (h.k0 g e.symm).2.1 rfl
  · rw [intsV, List.map_append, List.length_append]
    exact Ok
  · obtain rfl : gk = q := by simpa [Value.ownBlock] using hq
    rcases hat with e | e
    · exact h.k0 gk e
    · have := h.R.lt
      refine ⟨by omega, by omega, fun e2 => ?_⟩
      have := (h.C.types.lt gk e2).2
      omega

/-- types that are there -/
def inTy (o : Option Int) : Prop := ∀ a, o = some a → 1 ≤ a ∧ a ≤ 4

set_option maxHeartbeats 3200000 in
set_option maxRecDepth 100000 in
theorem typeOf_un (B cb : Nat) (ts : List Int) (mv lv : Value) (w0 : World) (i op : Int) (f : List Int → Option Int) (t1 : TypeId) (u1 : Value) (o1 : Option Int) (ys1 : List Int) (i1 : inTy o1) (V1 : Hid (TyV B cb ts mv lv w0 (.iface t1 u1) o1 ys1))
    (HA : Hid (∀ tt tv w ka kc a1, Below B w0 w → Ck B cb ts tt mv lv tv w → Ints w ka 1 kc [a1] → (1 ≤ a1 ∧ a1 ≤ 4) → Calls Tryz.prog 119 #[.pointer (some ⟨cb, 0, none⟩), .iface 156 (.agg #[.int .i64 i, .int .i64 op, .iface t1 u1]), .slice ka 1 kc] w fun r w' => TaAns (f [a1]) r ∧ Below w.heap.size w w')) :
    TyV B cb ts mv lv w0 (.iface 156 (.agg #[.int .i64 i, .int .i64 op, .iface t1 u1])) (o1.bind fun a1 => f [a1]) (ys1 ++ [(o1.bind fun a1 => f [a1]).getD 0]) := by
  intro tt tv w hw hC hz
  have hk := kids_un i op t1 u1
  have hp := place_un i op t1 u1
  have Hk := hide (kids_of_un i op t1 u1)
  have Hp := hide (place_of_un i op t1 u1)
  have Hw := hide hw
  have hcb := hC.row.lt
  have hBw : B ≤ w.heap.size := by have := hC.low; omega
  have hlt := hC.types.lt
  have hll := hC.lets.lt
  simp only [List.length_append, List.length_cons, List.length_nil] at hz
  obtain ⟨ii, hii, ez0, ez1, ez2⟩ := info_parts infoI
  clear hw
  go_enter Tryz.func102, Tryz.ntmps102
  go_wp2_with fail
  refine (unhide Hk _).mono ?_
  rintro r w1 ⟨g, rfl, hg, R1, hb1⟩
  have C1 := hC.below hb1
  have K1 : Kt B cb tv w tv w1 := Kt.of_all hb1 hBw
  have gne : g ≠ cb := by omega
  have gl := R1.lt
  have gtv : tv.ownBlock ≠ some g := fun e => by have := (hlt g e).2; omega
  have z1 := hb1.size
  clear hb1
  dsimp only
  go_wp2_with fail
  refine wp_loop_rounds 2 ?_
  rw [rounds_succ]
  have X0 : Kx B cb g w tv ts tt mv lv tv (.slice none 0 0) [] #[.iface t1 u1] w1 := ⟨C1, K1, R1, World.ownsRow_nil _ _ _ _, hBw, hcb, fun q hq => (hll q hq).2, hg, gtv, fun q hq => by cases hq⟩
  clear C1 K1 R1 gtv
  have c1 : w1.cell? ⟨g, 0, none⟩ = some (.iface t1 u1) := X0.R.cell 0
  go_wp2_with fail
  refine (unhide V1 tt tv _ ((unhide Hw).trans X0.K.low) X0.C (by (try simp only [List.length_append]); omega)).mono ?_
  rintro r wa1 (⟨a1, tv1, rfl, rfl, Cz1, Kz1⟩ | ⟨rfl, ⟨z, t, u, rfl⟩, hbz⟩)
  rotate_left
  · dsimp only
    go_wp2_with fail
    exact bodyPost_ret (v := .tuple #[.int .i64 0, .iface t u]) (by simp [results, Tryz.results102, go_sem]) rfl (.inr ⟨rfl, ⟨_, _, _, rfl⟩, X0.K.low.trans hbz⟩)
  have Y1 := X0.call Cz1 Kz1
  have ha1 := i1 a1 rfl
  have zl1 : B ≤ wa1.heap.size := Nat.le_trans hBw Y1.K.low.size
  clear X0 c1 Cz1 Kz1
  dsimp only
  go_wp2_with (at_builtin; refine wpList_append_lies _ rfl _ _ 24 rfl B 3 ii (.int .i64 0) 1 8 Tryz.underlying24 hii ez0 ez1 ez2 rfl (by decide) _ _ _ rfl (World.ownsRow.alloc Y1.O _) ⟨wa1.heap.size, 0, none⟩ 1 1 [.int .i64 a1] rfl rfl ?c1 ?c2 (by decide) ?c3 ?c4 ?c5 (wa1.heap.size + 1) (by simp) ?_)
  case c1 => exact one_cell _ _ _ _ (by simp)
  case c2 => intro u hu; simp at hu; subst hu; rfl
  case c3 => unfold maxLen; simp
  case c4 => simp
  case c5 => simp; omega
  intro gk1 cap1 wb1 Ok1 hgrow1 hat1 hgl1
  have X1 := Y1.app Ok1 hgrow1 hat1
  clear Y1 Ok1 hgrow1 hat1 hgl1
  go_wp2_with fail
  rw [rounds_succ]
  go_wp2_with fail
  refine (unhide HA _ _ _ _ _ a1 ((unhide Hw).trans X1.K.low) X1.C (ints_of_row (n := 1) (L := [a1]) X1.O (by decide)) ha1).mono ?_
  rintro r w2 ⟨hr, hb2⟩
  have C2 := X1.C.below hb2
  obtain ⟨tz, htz⟩ : ∃ tz, tz = tt ++ ys1 := ⟨_, rfl⟩
  rw [← htz] at C2
  have hzl : tz.length ≤ 3999 := by rw [htz]; simp only [List.length_append]; omega
  have HT := hide htz
  clear htz
  have hBx : B ≤ wb1.heap.size := Nat.le_trans hBw X1.K.low.size
  have K2 : Kt B cb tv w tv1 w2 := X1.K.trans (Kt.of_all hb2 hBx)
  rcases hr with ⟨t, hf, rfl⟩ | ⟨hf, z, t, u, rfl⟩
  · have c2 : w2.cell? ⟨cb, 2, none⟩ = some tv1 := C2.row.cell 2
    have HO := hide hf
    clear hf
    obtain ⟨xv, kv, rfl, _⟩ := owns_form2 C2.types
    dsimp only
    go_wp2_with (at_builtin; refine wpList_append_lies _ rfl _ _ 24 rfl B 3 ii (.int .i64 0) 1 8 Tryz.underlying24 hii ez0 ez1 ez2 rfl (by decide) _ _ _ rfl (World.ownsRow.alloc C2.types _) ⟨w2.heap.size, 0, none⟩ 1 1 [.int .i64 t] rfl rfl ?c1 ?c2 (by decide) ?c3 ?c4 ?c5 (w2.heap.size + 1) (by simp) ?_)
    case c1 => exact one_cell _ _ _ _ (by simp)
    case c2 => intro u hu; simp at hu; subst hu; rfl
    case c3 => unfold maxLen; omega
    case c4 => omega
    case c5 => have := hb2.size; simp; omega
    intro gz capz w3 O3 hgrow hat hgl
    obtain ⟨R3, C3, K3⟩ := C2.push (Nat.le_trans hBx hb2.size) O3 hgrow hat
    have d2 : w3.cell? ⟨cb, 2, none⟩ = some _ := R3.cell 2
    have df := R3.frozen 2
    go_wp2_with fail
    refine bodyPost_ret (v := .tuple #[.int .i64 t, .nilIface]) (by simp [results, Tryz.results102, go_sem]) rfl (.inl ⟨t, _, unhide HO, rfl, ?_, K2.trans K3⟩)
    have eO : (Option.bind (some a1) fun a1 => f [a1]).getD 0 = t := by show (f [a1]).getD 0 = t; rw [unhide HO]; rfl
    rw [eO]
    have eT : tt ++ (ys1 ++ [t]) = tz ++ [t] := by rw [unhide HT]; simp only [List.append_assoc]
    rw [eT]
    exact C3
  · have HO := hide hf
    clear hf
    dsimp only
    go_wp2_with fail
    refine (unhide Hp _).mono ?_
    rintro r w3 ⟨rfl, hb3⟩
    dsimp only
    go_wp2_with fail
    refine (faultAt_any i t u _).mono ?_
    rintro r w4 ⟨⟨t', u', rfl⟩, hb4⟩
    dsimp only
    go_wp2_with fail
    exact bodyPost_ret (v := .tuple #[.int .i64 0, .iface t' u']) (by simp [results, Tryz.results102, go_sem]) rfl (.inr ⟨unhide HO, ⟨_, _, _, rfl⟩, (K2.low.trans (hb3.mono (Nat.le_trans hBx hb2.size))).trans (hb4.mono (Nat.le_trans (Nat.le_trans hBx hb2.size) hb3.size))⟩)

set_option maxHeartbeats 3200000 in
set_option maxRecDepth 100000 in
theorem typeOf_bin (B cb : Nat) (ts : List Int) (mv lv : Value) (w0 : World) (i op : Int) (f : List Int → Option Int) (t1 : TypeId) (u1 : Value) (o1 : Option Int) (ys1 : List Int) (i1 : inTy o1) (V1 : Hid (TyV B cb ts mv lv w0 (.iface t1 u1) o1 ys1)) (t2 : TypeId) (u2 : Value) (o2 : Option Int) (ys2 : List Int) (i2 : inTy o2) (V2 : Hid (TyV B cb ts mv lv w0 (.iface t2 u2) o2 ys2))
    (HA : Hid (∀ tt tv w ka kc a1 a2, Below B w0 w → Ck B cb ts tt mv lv tv w → Ints w ka 2 kc [a1, a2] → (1 ≤ a1 ∧ a1 ≤ 4) → (1 ≤ a2 ∧ a2 ≤ 4) → Calls Tryz.prog 119 #[.pointer (some ⟨cb, 0, none⟩), .iface 158 (.agg #[.int .i64 i, .int .i64 op, .iface t1 u1, .iface t2 u2]), .slice ka 2 kc] w fun r w' => TaAns (f [a1, a2]) r ∧ Below w.heap.size w w')) :
    TyV B cb ts mv lv w0 (.iface 158 (.agg #[.int .i64 i, .int .i64 op, .iface t1 u1, .iface t2 u2])) (o1.bind fun a1 => o2.bind fun a2 => f [a1, a2]) (ys1 ++ ys2 ++ [(o1.bind fun a1 => o2.bind fun a2 => f [a1, a2]).getD 0]) := by
  intro tt tv w hw hC hz
  have hk := kids_bin i op t1 u1 t2 u2
  have hp := place_bin i op t1 u1 t2 u2
  have Hk := hide (kids_of_bin i op t1 u1 t2 u2)
  have Hp := hide (place_of_bin i op t1 u1 t2 u2)
  have Hw := hide hw
  have hcb := hC.row.lt
  have hBw : B ≤ w.heap.size := by have := hC.low; omega
  have hlt := hC.types.lt
  have hll := hC.lets.lt
  simp only [List.length_append, List.length_cons, List.length_nil] at hz
  obtain ⟨ii, hii, ez0, ez1, ez2⟩ := info_parts infoI
  clear hw
  go_enter Tryz.func102, Tryz.ntmps102
  go_wp2_with fail
  refine (unhide Hk _).mono ?_
  rintro r w1 ⟨g, rfl, hg, R1, hb1⟩
  have C1 := hC.below hb1
  have K1 : Kt B cb tv w tv w1 := Kt.of_all hb1 hBw
  have gne : g ≠ cb := by omega
  have gl := R1.lt
  have gtv : tv.ownBlock ≠ some g := fun e => by have := (hlt g e).2; omega
  have z1 := hb1.size
  clear hb1
  dsimp only
  go_wp2_with fail
  refine wp_loop_rounds 3 ?_
  rw [rounds_succ]
  have X0 : Kx B cb g w tv ts tt mv lv tv (.slice none 0 0) [] #[.iface t1 u1, .iface t2 u2] w1 := ⟨C1, K1, R1, World.ownsRow_nil _ _ _ _, hBw, hcb, fun q hq => (hll q hq).2, hg, gtv, fun q hq => by cases hq⟩
  clear C1 K1 R1 gtv
  have c1 : w1.cell? ⟨g, 0, none⟩ = some (.iface t1 u1) := X0.R.cell 0
  go_wp2_with fail
  refine (unhide V1 tt tv _ ((unhide Hw).trans X0.K.low) X0.C (by (try simp only [List.length_append]); omega)).mono ?_
  rintro r wa1 (⟨a1, tv1, rfl, rfl, Cz1, Kz1⟩ | ⟨rfl, ⟨z, t, u, rfl⟩, hbz⟩)
  rotate_left
  · dsimp only
    go_wp2_with fail
    exact bodyPost_ret (v := .tuple #[.int .i64 0, .iface t u]) (by simp [results, Tryz.results102, go_sem]) rfl (.inr ⟨rfl, ⟨_, _, _, rfl⟩, X0.K.low.trans hbz⟩)
  have Y1 := X0.call Cz1 Kz1
  have ha1 := i1 a1 rfl
  have zl1 : B ≤ wa1.heap.size := Nat.le_trans hBw Y1.K.low.size
  clear X0 c1 Cz1 Kz1
  dsimp only
  go_wp2_with (at_builtin; refine wpList_append_lies _ rfl _ _ 24 rfl B 3 ii (.int .i64 0) 1 8 Tryz.underlying24 hii ez0 ez1 ez2 rfl (by decide) _ _ _ rfl (World.ownsRow.alloc Y1.O _) ⟨wa1.heap.size, 0, none⟩ 1 1 [.int .i64 a1] rfl rfl ?c1 ?c2 (by decide) ?c3 ?c4 ?c5 (wa1.heap.size + 1) (by simp) ?_)
  case c1 => exact one_cell _ _ _ _ (by simp)
  case c2 => intro u hu; simp at hu; subst hu; rfl
  case c3 => unfold maxLen; simp
  case c4 => simp
  case c5 => simp; omega
  intro gk1 cap1 wb1 Ok1 hgrow1 hat1 hgl1
  have X1 := Y1.app Ok1 hgrow1 hat1
  clear Y1 Ok1 hgrow1 hat1 hgl1
  go_wp2_with fail
  have c2 : wb1.cell? ⟨g, 1, none⟩ = some (.iface t2 u2) := X1.R.cell 1
  rw [rounds_succ]
  go_wp2_with fail
  refine (unhide V2 (tt ++ ys1) tv1 _ ((unhide Hw).trans X1.K.low) X1.C (by (try simp only [List.length_append]); omega)).mono ?_
  rintro r wa2 (⟨a2, tv2, rfl, rfl, Cz2, Kz2⟩ | ⟨rfl, ⟨z, t, u, rfl⟩, hbz⟩)
  rotate_left
  · dsimp only
    go_wp2_with fail
    exact bodyPost_ret (v := .tuple #[.int .i64 0, .iface t u]) (by simp [results, Tryz.results102, go_sem]) rfl (.inr ⟨rfl, ⟨_, _, _, rfl⟩, X1.K.low.trans hbz⟩)
  have Y2 := X1.call Cz2 Kz2
  have ha2 := i2 a2 rfl
  have zl2 : B ≤ wa2.heap.size := Nat.le_trans hBw Y2.K.low.size
  clear X1 c2 Cz2 Kz2
  obtain ⟨xk2, ck2, hkf2, _⟩ := owns_form2 Y2.O
  dsimp only
  go_wp2_with (at_builtin; refine wpList_append_lies _ rfl _ _ 24 rfl B 3 ii (.int .i64 0) 1 8 Tryz.underlying24 hii ez0 ez1 ez2 rfl (by decide) _ _ _ rfl (World.ownsRow.alloc Y2.O _) ⟨wa2.heap.size, 0, none⟩ 1 1 [.int .i64 a2] rfl rfl ?c1 ?c2 (by decide) ?c3 ?c4 ?c5 (wa2.heap.size + 1) (by simp) ?_)
  case c1 => exact one_cell _ _ _ _ (by simp)
  case c2 => intro u hu; simp at hu; subst hu; rfl
  case c3 => unfold maxLen; simp
  case c4 => simp
  case c5 => simp; omega
  intro gk2 cap2 wb2 Ok2 hgrow2 hat2 hgl2
  have X2 := Y2.app Ok2 hgrow2 hat2
  clear Y2 Ok2 hgrow2 hat2 hgl2
  go_wp2_with fail
  rw [rounds_succ]
  go_wp2_with fail
  refine (unhide HA _ _ _ _ _ a1 a2 ((unhide Hw).trans X2.K.low) X2.C (ints_of_row (n := 2) (L := [a1, a2]) X2.O (by decide)) ha1 ha2).mono ?_
  rintro r w2 ⟨hr, hb2⟩
  have C2 := X2.C.below hb2
  obtain ⟨tz, htz⟩ : ∃ tz, tz = tt ++ ys1 ++ ys2 := ⟨_, rfl⟩
  rw [← htz] at C2
  have hzl : tz.length ≤ 3999 := by rw [htz]; simp only [List.length_append]; omega
  have HT := hide htz
  clear htz
  have hBx : B ≤ wb2.heap.size := Nat.le_trans hBw X2.K.low.size
  have K2 : Kt B cb tv w tv2 w2 := X2.K.trans (Kt.of_all hb2 hBx)
  rcases hr with ⟨t, hf, rfl⟩ | ⟨hf, z, t, u, rfl⟩
  · have c2 : w2.cell? ⟨cb, 2, none⟩ = some tv2 := C2.row.cell 2
    have HO := hide hf
    clear hf
    obtain ⟨xv, kv, rfl, _⟩ := owns_form2 C2.types
    dsimp only
    go_wp2_with (at_builtin; refine wpList_append_lies _ rfl _ _ 24 rfl B 3 ii (.int .i64 0) 1 8 Tryz.underlying24 hii ez0 ez1 ez2 rfl (by decide) _ _ _ rfl (World.ownsRow.alloc C2.types _) ⟨w2.heap.size, 0, none⟩ 1 1 [.int .i64 t] rfl rfl ?c1 ?c2 (by decide) ?c3 ?c4 ?c5 (w2.heap.size + 1) (by simp) ?_)
    case c1 => exact one_cell _ _ _ _ (by simp)
    case c2 => intro u hu; simp at hu; subst hu; rfl
    case c3 => unfold maxLen; omega
    case c4 => omega
    case c5 => have := hb2.size; simp; omega
    intro gz capz w3 O3 hgrow hat hgl
    obtain ⟨R3, C3, K3⟩ := C2.push (Nat.le_trans hBx hb2.size) O3 hgrow hat
    have d2 : w3.cell? ⟨cb, 2, none⟩ = some _ := R3.cell 2
    have df := R3.frozen 2
    go_wp2_with fail
    refine bodyPost_ret (v := .tuple #[.int .i64 t, .nilIface]) (by simp [results, Tryz.results102, go_sem]) rfl (.inl ⟨t, _, unhide HO, rfl, ?_, K2.trans K3⟩)
    have eO : (Option.bind (some a1) fun a1 => Option.bind (some a2) fun a2 => f [a1, a2]).getD 0 = t := by show (f [a1, a2]).getD 0 = t; rw [unhide HO]; rfl
    rw [eO]
    have eT : tt ++ (ys1 ++ ys2 ++ [t]) = tz ++ [t] := by rw [unhide HT]; simp only [List.append_assoc]
    rw [eT]
    exact C3
  · have HO := hide hf
    clear hf
    dsimp only
    go_wp2_with fail
    refine (unhide Hp _).mono ?_
    rintro r w3 ⟨rfl, hb3⟩
    dsimp only
    go_wp2_with fail
    refine (faultAt_any i t u _).mono ?_
    rintro r w4 ⟨⟨t', u', rfl⟩, hb4⟩
    dsimp only
    go_wp2_with fail
    exact bodyPost_ret (v := .tuple #[.int .i64 0, .iface t' u']) (by simp [results, Tryz.results102, go_sem]) rfl (.inr ⟨unhide HO, ⟨_, _, _, rfl⟩, (K2.low.trans (hb3.mono (Nat.le_trans hBx hb2.size))).trans (hb4.mono (Nat.le_trans (Nat.le_trans hBx hb2.size) hb3.size))⟩)

set_option maxHeartbeats 3200000 in
set_option maxRecDepth 100000 in
theorem typeOf_ite (B cb : Nat) (ts : List Int) (mv lv : Value) (w0 : World) (i : Int) (f : List Int → Option Int) (t1 : TypeId) (u1 : Value) (o1 : Option Int) (ys1 : List Int) (i1 : inTy o1) (V1 : Hid (TyV B cb ts mv lv w0 (.iface t1 u1) o1 ys1)) (t2 : TypeId) (u2 : Value) (o2 : Option Int) (ys2 : List Int) (i2 : inTy o2) (V2 : Hid (TyV B cb ts mv lv w0 (.iface t2 u2) o2 ys2)) (t3 : TypeId) (u3 : Value) (o3 : Option Int) (ys3 : List Int) (i3 : inTy o3) (V3 : Hid (TyV B cb ts mv lv w0 (.iface t3 u3) o3 ys3))
    (HA : Hid (∀ tt tv w ka kc a1 a2 a3, Below B w0 w → Ck B cb ts tt mv lv tv w → Ints w ka 3 kc [a1, a2, a3] → (1 ≤ a1 ∧ a1 ≤ 4) → (1 ≤ a2 ∧ a2 ≤ 4) → (1 ≤ a3 ∧ a3 ≤ 4) → Calls Tryz.prog 119 #[.pointer (some ⟨cb, 0, none⟩), .iface 161 (.agg #[.int .i64 i, .iface t1 u1, .iface t2 u2, .iface t3 u3]), .slice ka 3 kc] w fun r w' => TaAns (f [a1, a2, a3]) r ∧ Below w.heap.size w w')) :
    TyV B cb ts mv lv w0 (.iface 161 (.agg #[.int .i64 i, .iface t1 u1, .iface t2 u2, .iface t3 u3])) (o1.bind fun a1 => o2.bind fun a2 => o3.bind fun a3 => f [a1, a2, a3]) (ys1 ++ ys2 ++ ys3 ++ [(o1.bind fun a1 => o2.bind fun a2 => o3.bind fun a3 => f [a1, a2, a3]).getD 0]) := by
  intro tt tv w hw hC hz
  have hk := kids_ite i t1 u1 t2 u2 t3 u3
  have hp := place_ite i t1 u1 t2 u2 t3 u3
  have Hk := hide (kids_of_ite i t1 u1 t2 u2 t3 u3)
  have Hp := hide (place_of_ite i t1 u1 t2 u2 t3 u3)
  have Hw := hide hw
  have hcb := hC.row.lt
  have hBw : B ≤ w.heap.size := by have := hC.low; omega
  have hlt := hC.types.lt
  have hll := hC.lets.lt
  simp only [List.length_append, List.length_cons, List.length_nil] at hz
  obtain ⟨ii, hii, ez0, ez1, ez2⟩ := info_parts infoI
  clear hw
  go_enter Tryz.func102, Tryz.ntmps102
  go_wp2_with fail
  refine (unhide Hk _).mono ?_
  rintro r w1 ⟨g, rfl, hg, R1, hb1⟩
  have C1 := hC.below hb1
  have K1 : Kt B cb tv w tv w1 := Kt.of_all hb1 hBw
  have gne : g ≠ cb := by omega
  have gl := R1.lt
  have gtv : tv.ownBlock ≠ some g := fun e => by have := (hlt g e).2; omega
  have z1 := hb1.size
  clear hb1
  dsimp only
  go_wp2_with fail
  refine wp_loop_rounds 4 ?_
  rw [rounds_succ]
  have X0 : Kx B cb g w tv ts tt mv lv tv (.slice none 0 0) [] #[.iface t1 u1, .iface t2 u2, .iface t3 u3] w1 := ⟨C1, K1, R1, World.ownsRow_nil _ _ _ _, hBw, hcb, fun q hq => (hll q hq).2, hg, gtv, fun q hq => by cases hq⟩
  clear C1 K1 R1 gtv
  have c1 : w1.cell? ⟨g, 0, none⟩ = some (.iface t1 u1) := X0.R.cell 0
  go_wp2_with fail
  refine (unhide V1 tt tv _ ((unhide Hw).trans X0.K.low) X0.C (by (try simp only [List.length_append]); omega)).mono ?_
  rintro r wa1 (⟨a1, tv1, rfl, rfl, Cz1, Kz1⟩ | ⟨rfl, ⟨z, t, u, rfl⟩, hbz⟩)
  rotate_left
  · dsimp only
    go_wp2_with fail
    exact bodyPost_ret (v := .tuple #[.int .i64 0, .iface t u]) (by simp [results, Tryz.results102, go_sem]) rfl (.inr ⟨rfl, ⟨_, _, _, rfl⟩, X0.K.low.trans hbz⟩)
  have Y1 := X0.call Cz1 Kz1
  have ha1 := i1 a1 rfl
  have zl1 : B ≤ wa1.heap.size := Nat.le_trans hBw Y1.K.low.size
  clear X0 c1 Cz1 Kz1
  dsimp only
  go_wp2_with (at_builtin; refine wpList_append_lies _ rfl _ _ 24 rfl B 3 ii (.int .i64 0) 1 8 Tryz.underlying24 hii ez0 ez1 ez2 rfl (by decide) _ _ _ rfl (World.ownsRow.alloc Y1.O _) ⟨wa1.heap.size, 0, none⟩ 1 1 [.int .i64 a1] rfl rfl ?c1 ?c2 (by decide) ?c3 ?c4 ?c5 (wa1.heap.size + 1) (by simp) ?_)
  case c1 => exact one_cell _ _ _ _ (by simp)
  case c2 => intro u hu; simp at hu; subst hu; rfl
  case c3 => unfold maxLen; simp
  case c4 => simp
  case c5 => simp; omega
  intro gk1 cap1 wb1 Ok1 hgrow1 hat1 hgl1
  have X1 := Y1.app Ok1 hgrow1 hat1
  clear Y1 Ok1 hgrow1 hat1 hgl1
  go_wp2_with fail
  have c2 : wb1.cell? ⟨g, 1, none⟩ = some (.iface t2 u2) := X1.R.cell 1
  rw [rounds_succ]
  go_wp2_with fail
  refine (unhide V2 (tt ++ ys1) tv1 _ ((unhide Hw).trans X1.K.low) X1.C (by (try simp only [List.length_append]); omega)).mono ?_
  rintro r wa2 (⟨a2, tv2, rfl, rfl, Cz2, Kz2⟩ | ⟨rfl, ⟨z, t, u, rfl⟩, hbz⟩)
  rotate_left
  · dsimp only
    go_wp2_with fail
    exact bodyPost_ret (v := .tuple #[.int .i64 0, .iface t u]) (by simp [results, Tryz.results102, go_sem]) rfl (.inr ⟨rfl, ⟨_, _, _, rfl⟩, X1.K.low.trans hbz⟩)
  have Y2 := X1.call Cz2 Kz2
  have ha2 := i2 a2 rfl
  have zl2 : B ≤ wa2.heap.size := Nat.le_trans hBw Y2.K.low.size
  clear X1 c2 Cz2 Kz2
  obtain ⟨xk2, ck2, hkf2, _⟩ := owns_form2 Y2.O
  dsimp only
  go_wp2_with (at_builtin; refine wpList_append_lies _ rfl _ _ 24 rfl B 3 ii (.int .i64 0) 1 8 Tryz.underlying24 hii ez0 ez1 ez2 rfl (by decide) _ _ _ rfl (World.ownsRow.alloc Y2.O _) ⟨wa2.heap.size, 0, none⟩ 1 1 [.int .i64 a2] rfl rfl ?c1 ?c2 (by decide) ?c3 ?c4 ?c5 (wa2.heap.size + 1) (by simp) ?_)
  case c1 => exact one_cell _ _ _ _ (by simp)
  case c2 => intro u hu; simp at hu; subst hu; rfl
  case c3 => unfold maxLen; simp
  case c4 => simp
  case c5 => simp; omega
  intro gk2 cap2 wb2 Ok2 hgrow2 hat2 hgl2
  have X2 := Y2.app Ok2 hgrow2 hat2
  clear Y2 Ok2 hgrow2 hat2 hgl2
  go_wp2_with fail
  have c3 : wb2.cell? ⟨g, 2, none⟩ = some (.iface t3 u3) := X2.R.cell 2
  rw [rounds_succ]
  go_wp2_with fail
  refine (unhide V3 ((tt ++ ys1) ++ ys2) tv2 _ ((unhide Hw).trans X2.K.low) X2.C (by (try simp only [List.length_append]); omega)).mono ?_
  rintro r wa3 (⟨a3, tv3, rfl, rfl, Cz3, Kz3⟩ | ⟨rfl, ⟨z, t, u, rfl⟩, hbz⟩)
  rotate_left
  · dsimp only
    go_wp2_with fail
    exact bodyPost_ret (v := .tuple #[.int .i64 0, .iface t u]) (by simp [results, Tryz.results102, go_sem]) rfl (.inr ⟨rfl, ⟨_, _, _, rfl⟩, X2.K.low.trans hbz⟩)
  have Y3 := X2.call Cz3 Kz3
  have ha3 := i3 a3 rfl
  have zl3 : B ≤ wa3.heap.size := Nat.le_trans hBw Y3.K.low.size
  clear X2 c3 Cz3 Kz3
  obtain ⟨xk3, ck3, hkf3, _⟩ := owns_form2 Y3.O
  dsimp only
  go_wp2_with (at_builtin; refine wpList_append_lies _ rfl _ _ 24 rfl B 3 ii (.int .i64 0) 1 8 Tryz.underlying24 hii ez0 ez1 ez2 rfl (by decide) _ _ _ rfl (World.ownsRow.alloc Y3.O _) ⟨wa3.heap.size, 0, none⟩ 1 1 [.int .i64 a3] rfl rfl ?c1 ?c2 (by decide) ?c3 ?c4 ?c5 (wa3.heap.size + 1) (by simp) ?_)
  case c1 => exact one_cell _ _ _ _ (by simp)
  case c2 => intro u hu; simp at hu; subst hu; rfl
  case c3 => unfold maxLen; simp
  case c4 => simp
  case c5 => simp; omega
  intro gk3 cap3 wb3 Ok3 hgrow3 hat3 hgl3
  have X3 := Y3.app Ok3 hgrow3 hat3
  clear Y3 Ok3 hgrow3 hat3 hgl3
  go_wp2_with fail
  rw [rounds_succ]
  go_wp2_with fail
  refine (unhide HA _ _ _ _ _ a1 a2 a3 ((unhide Hw).trans X3.K.low) X3.C (ints_of_row (n := 3) (L := [a1, a2, a3]) X3.O (by decide)) ha1 ha2 ha3).mono ?_
  rintro r w2 ⟨hr, hb2⟩
  have C2 := X3.C.below hb2
  obtain ⟨tz, htz⟩ : ∃ tz, tz = tt ++ ys1 ++ ys2 ++ ys3 := ⟨_, rfl⟩
  rw [← htz] at C2
  have hzl : tz.length ≤ 3999 := by rw [htz]; simp only [List.length_append]; omega
  have HT := hide htz
  clear htz
  have hBx : B ≤ wb3.heap.size := Nat.le_trans hBw X3.K.low.size
  have K2 : Kt B cb tv w tv3 w2 := X3.K.trans (Kt.of_all hb2 hBx)
  rcases hr with ⟨t, hf, rfl⟩ | ⟨hf, z, t, u, rfl⟩
  · have c2 : w2.cell? ⟨cb, 2, none⟩ = some tv3 := C2.row.cell 2
    have HO := hide hf
    clear hf
    obtain ⟨xv, kv, rfl, _⟩ := owns_form2 C2.types
    dsimp only
    go_wp2_with (at_builtin; refine wpList_append_lies _ rfl _ _ 24 rfl B 3 ii (.int .i64 0) 1 8 Tryz.underlying24 hii ez0 ez1 ez2 rfl (by decide) _ _ _ rfl (World.ownsRow.alloc C2.types _) ⟨w2.heap.size, 0, none⟩ 1 1 [.int .i64 t] rfl rfl ?c1 ?c2 (by decide) ?c3 ?c4 ?c5 (w2.heap.size + 1) (by simp) ?_)
    case c1 => exact one_cell _ _ _ _ (by simp)
    case c2 => intro u hu; simp at hu; subst hu; rfl
    case c3 => unfold maxLen; omega
    case c4 => omega
    case c5 => have := hb2.size; simp; omega
    intro gz capz w3 O3 hgrow hat hgl
    obtain ⟨R3, C3, K3⟩ := C2.push (Nat.le_trans hBx hb2.size) O3 hgrow hat
    have d2 : w3.cell? ⟨cb, 2, none⟩ = some _ := R3.cell 2
    have df := R3.frozen 2
    go_wp2_with fail
    refine bodyPost_ret (v := .tuple #[.int .i64 t, .nilIface]) (by simp [results, Tryz.results102, go_sem]) rfl (.inl ⟨t, _, unhide HO, rfl, ?_, K2.trans K3⟩)
    have eO : (Option.bind (some a1) fun a1 => Option.bind (some a2) fun a2 => Option.bind (some a3) fun a3 => f [a1, a2, a3]).getD 0 = t := by show (f [a1, a2, a3]).getD 0 = t; rw [unhide HO]; rfl
    rw [eO]
    have eT : tt ++ (ys1 ++ ys2 ++ ys3 ++ [t]) = tz ++ [t] := by rw [unhide HT]; simp only [List.append_assoc]
    rw [eT]
    exact C3
  · have HO := hide hf
    clear hf
    dsimp only
    go_wp2_with fail
    refine (unhide Hp _).mono ?_
    rintro r w3 ⟨rfl, hb3⟩
    dsimp only
    go_wp2_with fail
    refine (faultAt_any i t u _).mono ?_
    rintro r w4 ⟨⟨t', u', rfl⟩, hb4⟩
    dsimp only
    go_wp2_with fail
    exact bodyPost_ret (v := .tuple #[.int .i64 0, .iface t' u']) (by simp [results, Tryz.results102, go_sem]) rfl (.inr ⟨unhide HO, ⟨_, _, _, rfl⟩, (K2.low.trans (hb3.mono (Nat.le_trans hBx hb2.size))).trans (hb4.mono (Nat.le_trans (Nat.le_trans hBx hb2.size) hb3.size))⟩)

end Go.Proofs.YtpbopjgmiaoomaaGreatDoor

/-
  QJ, JW. Own work.
-/
import Derived.Test.YtpbopjgmiaoomaaGreatDoorMXAD
import Derived.Test.YtpbopjgmiaoomaaGreatDoorQH
import Derived.Test.YtpbopjgmiaoomaaGreatDoorMXAJ
import Derived.Test.YtpbopjgmiaoomaaGreatDoorJV
import Derived.Test.YtpbopjgmiaoomaaGreatDoorVPK
import Derived.LoopN
import Derived.Deep.AppendLies
namespace Go.Proofs.YtpbopjgmiaoomaaGreatDoor
open Go.RowKit
set_option linter.unusedVariables false

/-- trees in a row of the call's own -/
structure OwnT (w : World) (lo : Nat) (v : Value) (N : List Nd) (P : Ex → Prop) (Es : List Ex) : Prop where
  own : w.ownsRow lo 75 1 v Es.length (Es.map Ex.val)
  tree : ∀ j, (h : j < Es.length) → IsT N j Es[j]
  fit : ∀ e ∈ Es, P e

theorem OwnT.trs {w : World} {lo : Nat} {v : Value} {N : List Nd} {P : Ex → Prop} {Es : List Ex} (h : OwnT w lo v N P Es) (hs : Es.length ≤ 1048576) : ∃ a c, v = .slice a Es.length c ∧ Trs w a Es.length c Es := by
  obtain ⟨a, c, rfl, ha⟩ := owns_form2 h.own
  refine ⟨a, c, rfl, rfl, hs, fun j hj => ?_⟩
  obtain ⟨g, rfl, hg, hgc⟩ := ha (by omega)
  refine ⟨g, 0, rfl, (h.own.lt g rfl).2, ?_⟩
  have := hgc j Es[j].val (by simp [hj])
  simpa using this

theorem infoEx : (Tryz.prog.info? 75).map (fun i => (i.zero, i.size, i.bytes)) = some (some .nilIface, 1, 16) := by kernel_rfl

/-- each node has its tree, where those ahead have theirs -/
def Makes (w0 : World) (N : List Nd) (P : Ex → Prop) : Prop :=
  ∀ (k : Nat) (x : Nd) (an : Option Addr) (nn cn : Nat) (Es : List Ex), N[k]? = some x → Es.length = k → (∀ j, (h : j < Es.length) → IsT N j Es[j]) → (∀ e ∈ Es, P e) → Strs w0 an nn cn x.names → ∃ e, MkT Es k x an nn cn e ∧ IsT N k e ∧ P e

set_option maxHeartbeats 1600000 in
set_option maxRecDepth 100000 in
theorem treesOf_any (a : Option Addr) (n c : Nat) (N : List Nd) (w0 w : World) (h : Nds w0 a n c N) (hw : Below w0.heap.size w0 w) (P : Ex → Prop) (hM : Makes w0 N P) :
    Calls Tryz.prog 56 #[.slice a n c] w fun r w' => (∃ v Es, r = .returned v ∧ Es.length = n ∧ OwnT w' w.heap.size v N P Es) ∧ Below w.heap.size w w' := by
  have hn := h.small
  have HL := hide h.len
  have HM := hide hM
  clear hM
  obtain ⟨ie, hie, ez0, ez1, ez2⟩ := info_parts infoEx
  go_enter Tryz.func56, Tryz.ntmps56
  go_wp2_with fail
  go_loopw [3, 8] (fun v i wr => ∃ (k : Nat) (Es : List Ex), k ≤ n ∧ i = .int .i64 k ∧ Hid (Es.length = k) ∧ OwnT wr w.heap.size v N P Es ∧ Below w.heap.size w wr) (fun _ i _ => n - (intOf i).toNat)
  case atStart => exact ⟨0, [], by omega, rfl, rfl, ⟨World.ownsRow_nil _ _ _ _, fun j hj => absurd hj (by simp), fun e he => (by cases he)⟩, Below.refl _ _⟩
  case round =>
    obtain ⟨k, Es, hk, rfl, HE, O1, B1⟩ := hrel
    by_cases hlt : k < n
    · have ilt : (k : Int) < (n : Int) := by omega
      have hkl : k < N.length := by rw [unhide HL]; exact hlt
      have W1 := hw.trans (B1.mono hw.size)
      obtain ⟨b, off, rfl, hbl, an, nn, cn, ak, nk, ck, d0, d1, d2, d3, d4, hS', hI0⟩ := h.cells k hkl
      have c0 := (W1.cell (p := ⟨b, off + k * 5, none⟩) hbl).trans d0
      have c1 := (W1.cell (p := ⟨b, off + k * 5 + 1, none⟩) hbl).trans d1
      have c2 := (W1.cell (p := ⟨b, off + k * 5 + 2, none⟩) hbl).trans d2
      have c3 := (W1.cell (p := ⟨b, off + k * 5 + 3, none⟩) hbl).trans d3
      have c4 := (W1.cell (p := ⟨b, off + k * 5 + 4, none⟩) hbl).trans d4
      have hI := hI0.below W1 (Nat.le_refl _)
      have hb : b < wr.heap.size := Nat.lt_of_lt_of_le hbl W1.size
      clear d0 d1 d2 d3 d4 hI0 W1
      have hx : N[k]? = some N[k] := List.getElem?_eq_getElem hkl
      obtain ⟨e, hm, ht, hfit⟩ := unhide HM k _ an nn cn Es hx (unhide HE) O1.tree O1.fit hS'
      have Hlt := hide hlt
      have hEl : Es.length ≤ 1048576 := by rw [unhide HE]; omega
      obtain ⟨av, cv, rfl, T1⟩ := O1.trs hEl
      have HT := hide (fun j (hj : j < (Es ++ [e]).length) => show IsT N j (Es ++ [e])[j] by
        by_cases hj2 : j < Es.length
        · rw [List.getElem_append_left hj2]; exact O1.tree j hj2
        · have : j = Es.length := by simp at hj; omega
          subst this
          simp only [List.getElem_concat_length]
          rw [unhide HE]; exact ht)
      have HX := hide (fun f (hf : f ∈ Es ++ [e]) => show P f by
        rcases List.mem_append.1 hf with hf | hf
        · exact O1.fit f hf
        · simp at hf; subst hf; exact hfit)
      have Q1 := O1.own
      generalize N[k] = x at c0 c1 c2 c3 c4 hI hm
      have R1 := Row.new wr #[.int .i64 x.op, .int .i64 x.num, .string x.text, .slice an nn cn, .slice ak nk ck] 103
      have B2 := B1.alloc B1.size (.cells #[.int .i64 x.op, .int .i64 x.num, .string x.text, .slice an nn cn, .slice ak nk ck] 103)
      have C2 := (Below.refl wr.heap.size wr).alloc (Nat.le_refl _) (.cells #[.int .i64 x.op, .int .i64 x.num, .string x.text, .slice an nn cn, .slice ak nk ck] 103)
      have Q2 := Q1.alloc (.cells #[.int .i64 x.op, .int .i64 x.num, .string x.text, .slice an nn cn, .slice ak nk ck] 103)
      have HC := hide (treeOf_any hm (hI.below C2 (Nat.le_refl _)) (T1.below C2 (Nat.le_refl _)))
      obtain ⟨t, u, hv⟩ := e.form
      rw [hv] at HC
      have HV := hide hv
      have zb := B1.size
      have HE2 := HE
      clear hI hS' hm ht hfit T1 Q1 O1 hx hkl hlt hv hbl HE
      go_wp2_with fail
      have zw : (wr.alloc (.cells #[.int .i64 x.op, .int .i64 x.num, .string x.text, .slice an nn cn, .slice ak nk ck] 103)).heap.size = wr.heap.size + 1 := by simp
      refine (unhide HC).mono ?_
      rintro r w3 ⟨rfl, hb3⟩
      have Q3 : w3.ownsRow w.heap.size 75 1 (.slice av Es.length cv) Es.length (Es.map Ex.val) := owns_blocks2 Q2 (fun q hq => hb3.block q (Q2.lt q hq).2)
      have B3 := B2.trans (hb3.mono B2.size)
      have z3 := B3.size
      dsimp only
      go_wp2_with (at_builtin; refine wpList_append_own _ rfl _ _ 119 rfl w.heap.size 75 ie .nilIface 1 16 Tryz.underlying119 hie ez0 ez1 ez2 rfl (by decide) _ _ _ rfl (World.ownsRow.alloc Q3 _) ⟨w3.heap.size, 0, none⟩ 1 1 [.iface t u] rfl rfl ?d1 ?d2 ?d3 ?d4 ?d5 ?_)
      case d1 => exact one_cell _ _ _ _ (by simp)
      case d2 => intro u hu; simp at hu; subst hu; rfl
      case d3 => unfold maxLen; omega
      case d4 => omega
      case d5 => simp; omega
      intro v' w4 Q4 hgrow _
      have B4 := (B3.alloc B3.size (.cells #[.iface t u] 75)).grown hgrow (by simp; omega) (fun q hq => (Q3.lt q hq).1)
      clear hgrow
      go_wp2_with fail
      go_roundw
      case rel => exact ⟨k + 1, Es ++ [e], unhide Hlt, by go_num, hide (by simp [unhide HE2]), ⟨by rw [List.map_append, List.length_append]; simp only [List.map_cons, List.map_nil, unhide HV]; exact Q4, unhide HT, unhide HX⟩, B4⟩
      case measure => have := unhide Hlt; simp [intOf]; omega
    · have e : k = n := by omega
      subst e
      go_wp2_with fail
      go_ret
      exact ⟨⟨_, Es, rfl, unhide HE, O1⟩, B1⟩

end Go.Proofs.YtpbopjgmiaoomaaGreatDoor

namespace Go.Proofs.YtpbopjgmiaoomaaGreatDoor
open Go.RowKit
set_option linter.unusedVariables false

/-- the checker lies in block cb; all of its own lies from B on -/
structure Ck (B cb : Nat) (ts tt : List Int) (mv lv tv : Value) (w : World) : Prop where
  row : Row w cb #[mv, lv, tv] 118
  lets : w.ownsRow B 3 1 lv ts.length (intsV ts)
  types : w.ownsRow B 3 1 tv tt.length (intsV tt)
  low : B ≤ cb
  apart : ∀ q, lv.ownBlock = some q → tv.ownBlock ≠ some q

/-- what stands while types are found: all but the checker and the row of its types -/
structure Kt (B cb : Nat) (tv : Value) (w : World) (tv' : Value) (w' : World) : Prop where
  low : Below B w w'
  keep : ∀ k, k < w.heap.size → k ≠ cb → some k ≠ tv.ownBlock → w'.heap[k]? = w.heap[k]?
  new : ∀ q, tv'.ownBlock = some q → tv.ownBlock = some q ∨ w.heap.size ≤ q

theorem Kt.refl (B cb : Nat) (tv : Value) (w : World) : Kt B cb tv w tv w := ⟨Below.refl _ _, fun _ _ _ _ => rfl, fun q h => .inl h⟩

theorem Kt.trans {B cb : Nat} {tv tv1 tv2 : Value} {w w1 w2 : World} (h : Kt B cb tv w tv1 w1) (k : Kt B cb tv1 w1 tv2 w2) : Kt B cb tv w tv2 w2 :=
  ⟨h.low.trans k.low, fun q h1 h2 h3 => by
    have hne : some q ≠ tv1.ownBlock := fun e => by
      rcases h.new q e.symm with e2 | e2
      · exact h3 e2.symm
      · omega
    exact (k.keep q (Nat.lt_of_lt_of_le h1 h.low.size) h2 hne).trans (h.keep q h1 h2 h3), fun q hq => by
    rcases k.new q hq with e | e
    · exact h.new q e
    · exact .inr (Nat.le_trans h.low.size e)⟩

theorem Kt.of_all {B cb : Nat} {tv : Value} {w w' : World} (h : Below w.heap.size w w') (hB : B ≤ w.heap.size) : Kt B cb tv w tv w' :=
  ⟨h.mono hB, fun k hk _ _ => h.block k hk, fun q hq => .inl hq⟩

theorem Ck.below {B cb : Nat} {ts tt : List Int} {mv lv tv : Value} {w w' : World} (h : Ck B cb ts tt mv lv tv w) (hb : Below w.heap.size w w') : Ck B cb ts tt mv lv tv w' :=
  ⟨h.row.after hb (Nat.le_refl _), owns_blocks2 h.lets (fun q hq => hb.block q (h.lets.lt q hq).2), owns_blocks2 h.types (fun q hq => hb.block q (h.types.lt q hq).2), h.low, h.apart⟩

theorem Kt.row {B cb : Nat} {tv tv' : Value} {w w' : World} (h : Kt B cb tv w tv' w') {g : Nat} {cs : Array Value} {t : TypeId} (R : Row w g cs t) (hg : g ≠ cb) (hv : tv.ownBlock ≠ some g) : Row w' g cs t :=
  ⟨(h.keep g R.lt hg (fun e => hv e.symm)).trans R.out⟩

theorem Ck.push {B cb : Nat} {ts tt : List Int} {mv lv tv : Value} {w w3 : World} {o : Obj} {t : Int} {g cap : Nat} (h : Ck B cb ts tt mv lv tv w) (hB : B ≤ w.heap.size)
    (O3 : w3.ownsRow B 3 1 (.slice (some ⟨g, 0, none⟩) (tt.length + 1) cap) (tt.length + 1) (intsV tt ++ [.int .i64 t])) (hgrow : (w.alloc o).grownBy w3 tv.ownBlock) (hat : tv.ownBlock = some g ∨ g = w.heap.size + 1) :
    Row w3 cb #[mv, lv, tv] 118 ∧ Ck B cb ts (tt ++ [t]) mv lv (.slice (some ⟨g, 0, none⟩) (tt.length + 1) cap) (w3.setCell ⟨cb, 2, none⟩ (.slice (some ⟨g, 0, none⟩) (tt.length + 1) cap)) ∧ Kt B cb tv w (.slice (some ⟨g, 0, none⟩) (tt.length + 1) cap) (w3.setCell ⟨cb, 2, none⟩ (.slice (some ⟨g, 0, none⟩) (tt.length + 1) cap)) := by
  have n1 := own_ne_row h.row h.lets (by decide)
  have n2 := own_ne_row h.row h.types (by decide)
  have R3 := (h.row.alloc o).grown hgrow (fun e => n2 e.symm)
  have n3 := own_ne_row R3 O3 (by decide)
  have ng : g ≠ cb := fun e => n3 (by rw [e]; rfl)
  have za : (w.alloc o).heap.size = w.heap.size + 1 := by simp
  have kb : ∀ k, k < w.heap.size → k ≠ cb → some k ≠ tv.ownBlock → (w3.setCell ⟨cb, 2, none⟩ (.slice (some ⟨g, 0, none⟩) (tt.length + 1) cap)).heap[k]? = w.heap[k]? := fun k h1 h2 h3 =>
    (heap_setCell_other w3 ⟨cb, 2, none⟩ k _ h2).trans ((hgrow.block k (by rw [za]; omega) h3).trans (Below.heap_alloc w o k h1))
  refine ⟨R3, ⟨R3.set 2 (.slice (some ⟨g, 0, none⟩) (tt.length + 1) cap), owns_blocks2 h.lets (fun q hq => kb q (h.lets.lt q hq).2 (fun e => n1 (e ▸ hq)) (fun e => h.apart q hq e.symm)), ?_, h.low, fun q hq e => ?_⟩, ⟨?_, kb, fun q hq => ?_⟩⟩
  · rw [intsV, List.map_append, List.length_append]
    refine own_set3 O3 ⟨cb, 2, none⟩ _ (fun q hq => ?_)
    have : g = q := by simpa [Value.ownBlock] using hq
    subst this
    exact ng
  · have : g = q := by simpa [Value.ownBlock] using e
    subst this
    rcases hat with hat | hat
    · exact h.apart g hq hat
    · have := (h.lets.lt g hq).2; omega
  · exact (((Below.refl B w).alloc hB o).grown hgrow (by rw [za]; omega) (fun q hq => (h.types.lt q hq).1)).setCell (p := ⟨cb, 2, none⟩) h.low _
  · have : g = q := by simpa [Value.ownBlock] using hq
    subst this
    rcases hat with hat | hat
    · exact .inl hat
    · right; omega

/-- what is answered of a tree -/
def TyO (B cb : Nat) (ts tt : List Int) (mv lv tv : Value) (o : Option Int) (ys : List Int) (w : World) (r : Ending) (w' : World) : Prop :=
  (∃ t tv', o = some t ∧ r = .returned (.tuple #[.int .i64 t, .nilIface]) ∧ Ck B cb ts (tt ++ ys) mv lv tv' w' ∧ Kt B cb tv w tv' w') ∨ (o = none ∧ (∃ z t u, r = .returned (.tuple #[.int .i64 z, .iface t u])) ∧ Below B w w')

def TyV (B cb : Nat) (ts : List Int) (mv lv : Value) (w0 : World) (v : Value) (o : Option Int) (ys : List Int) : Prop :=
  ∀ (tt : List Int) (tv : Value) (w : World), Below B w0 w → Ck B cb ts tt mv lv tv w → tt.length + ys.length ≤ 4000 → Calls Tryz.prog 102 #[.pointer (some ⟨cb, 0, none⟩), v] w (TyO B cb ts tt mv lv tv o ys w)

theorem faultAt_any (i : Int) (t : TypeId) (u : Value) (w : World) : Calls Tryz.prog 104 #[.int .i64 i, .iface t u] w fun r w' => (∃ t' u', r = .returned (.iface t' u')) ∧ Below w.heap.size w w' := by
  go_enter Tryz.func104, Tryz.ntmps104
  go_wp2
  go_ret
  exact ⟨⟨_, _, rfl⟩, (Below.refl _ _).alloc (Nat.le_refl _) _⟩

set_option maxHeartbeats 800000 in
set_option maxRecDepth 100000 in
theorem typeOf_leaf (B cb : Nat) (ts : List Int) (mv lv : Value) (w0 : World) (T : TypeId) (v : Value) (i : Int) (o : Option Int)
    (hk : ∀ w, (method 344 T v "loop.example/s01308/impl.kids").run Tryz.prog w = .ok (147, .int .i64 i) w)
    (hp : ∀ w, (method 344 T v "loop.example/s01308/impl.place").run Tryz.prog w = .ok (148, .int .i64 i) w)
    (HA : Hid (∀ tt tv w, Below B w0 w → Ck B cb ts tt mv lv tv w → Calls Tryz.prog 119 #[.pointer (some ⟨cb, 0, none⟩), .iface T v, .slice none 0 0] w fun r w' => TaAns o r ∧ Below w.heap.size w w')) :
    TyV B cb ts mv lv w0 (.iface T v) o [o.getD 0] := by
  intro tt tv w hw hC hz
  have Hw := hide hw
  have HC := hide hC
  have hcb := hC.row.lt
  obtain ⟨ii, hii, ez0, ez1, ez2⟩ := info_parts infoI
  clear hw
  go_enter Tryz.func102, Tryz.ntmps102
  go_wp2_with fail
  refine (kids_leaf i _).mono ?_
  rintro r w1 ⟨rfl, hw1⟩
  rw [hw1]
  clear hw1
  dsimp only
  go_wp2_with fail
  refine wp_loop_rounds 1 ?_
  rw [rounds_succ]
  go_wp2_with fail
  refine (unhide HA tt tv _ (unhide Hw) (unhide HC)).mono ?_
  rintro r w2 ⟨hr, hb2⟩
  have C2 := hC.below hb2
  have hBw : B ≤ w.heap.size := by have := hC.low; omega
  have K2 : Kt B cb tv w tv w2 := Kt.of_all hb2 hBw
  rcases hr with ⟨t, rfl, rfl⟩ | ⟨rfl, z, t, u, rfl⟩
  · have c2 : w2.cell? ⟨cb, 2, none⟩ = some tv := C2.row.cell 2
    obtain ⟨xv, kv, rfl, _⟩ := owns_form2 C2.types
    dsimp only
    go_wp2_with (at_builtin; refine wpList_append_lies _ rfl _ _ 24 rfl B 3 ii (.int .i64 0) 1 8 Tryz.underlying24 hii ez0 ez1 ez2 rfl (by decide) _ _ _ rfl (World.ownsRow.alloc C2.types _) ⟨w2.heap.size, 0, none⟩ 1 1 [.int .i64 t] rfl rfl ?c1 ?c2 (by decide) ?c3 ?c4 ?c5 (w2.heap.size + 1) (by simp) ?_)
    case c1 => exact one_cell _ _ _ _ (by simp)
    case c2 => intro u hu; simp at hu; subst hu; rfl
    case c3 => unfold maxLen; simp at hz; omega
    case c4 => simp at hz; omega
    case c5 => have := C2.low; have := C2.row.lt; simp; omega
    intro g cap w3 O3 hgrow hat hgl
    obtain ⟨R3, C3, K3⟩ := C2.push (by have := C2.low; have := C2.row.lt; omega) O3 hgrow hat
    have d2 : w3.cell? ⟨cb, 2, none⟩ = some (.slice xv tt.length kv) := R3.cell 2
    have df := R3.frozen 2
    go_wp2_with fail
    exact bodyPost_ret (v := .tuple #[.int .i64 t, .nilIface]) (by simp [results, Tryz.results102, go_sem]) rfl (.inl ⟨t, _, rfl, rfl, C3, K2.trans K3⟩)
  · dsimp only
    go_wp2_with fail
    refine (place_leaf i _).mono ?_
    rintro r w3 ⟨rfl, hw3⟩
    rw [hw3]
    clear hw3
    dsimp only
    go_wp2_with fail
    refine (faultAt_any i t u _).mono ?_
    rintro r w4 ⟨⟨t', u', rfl⟩, hb4⟩
    dsimp only
    go_wp2_with fail
    exact bodyPost_ret (v := .tuple #[.int .i64 0, .iface t' u']) (by simp [results, Tryz.results102, go_sem]) rfl (.inr ⟨rfl, ⟨_, _, _, rfl⟩, K2.low.trans (hb4.mono (Nat.le_trans hBw hb2.size))⟩)

end Go.Proofs.YtpbopjgmiaoomaaGreatDoor

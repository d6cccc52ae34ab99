/-
  A let, declared. Own work.
-/
import Derived.Test.YtjapdeehnfoonaaGreatDoorMWK
namespace Go.Proofs.YtjapdeehnfoonaaGreatDoor
open Go.RowKit
set_option linter.unusedVariables false

/-- the checker with its names -/
structure Cm (B cb mb : Nat) (ns : List ByteArray) (ts tt : List Int) (lv tv : Value) (w : World) : Prop where
  C : Ck B cb ts tt (.map (some mb)) lv tv w
  M : MapK w mb ns
  low : B ≤ mb

theorem Cm.ne {B cb mb : Nat} {ns : List ByteArray} {ts tt : List Int} {lv tv : Value} {w : World} (h : Cm B cb mb ns ts tt lv tv w) : mb ≠ cb ∧ lv.ownBlock ≠ some mb ∧ tv.ownBlock ≠ some mb := by
  obtain ⟨es, cl, h1, _⟩ := h.M
  refine ⟨fun e => ?_, fun e => ?_, fun e => ?_⟩
  · subst e; have := h.C.row.out.symm.trans h1; simp at this
  · rcases h.C.lets.2 with ⟨hv, _⟩ | ⟨g, cap, cur, hv, _, hg, _⟩
    · rw [hv] at e; cases e
    · rw [hv] at e
      obtain rfl : g = mb := by simpa [Value.ownBlock] using e
      have := hg.symm.trans h1; simp at this
  · rcases h.C.types.2 with ⟨hv, _⟩ | ⟨g, cap, cur, hv, _, hg, _⟩
    · rw [hv] at e; cases e
    · rw [hv] at e
      obtain rfl : g = mb := by simpa [Value.ownBlock] using e
      have := hg.symm.trans h1; simp at this

/-- what stands while a statement is looked at -/
structure Kd (B cb mb : Nat) (lv tv : Value) (w : World) (lv' tv' : Value) (w' : World) : Prop where
  low : Below B w w'
  keep : ∀ k, k < w.heap.size → k ≠ cb → k ≠ mb → some k ≠ lv.ownBlock → some k ≠ tv.ownBlock → w'.heap[k]? = w.heap[k]?
  newl : ∀ q, lv'.ownBlock = some q → lv.ownBlock = some q ∨ w.heap.size ≤ q
  newt : ∀ q, tv'.ownBlock = some q → tv.ownBlock = some q ∨ w.heap.size ≤ q

theorem Kd.refl (B cb mb : Nat) (lv tv : Value) (w : World) : Kd B cb mb lv tv w lv tv w := ⟨Below.refl _ _, fun _ _ _ _ _ _ => rfl, fun q h => .inl h, fun q h => .inl h⟩

theorem Kd.trans {B cb mb : Nat} {lv tv lv1 tv1 lv2 tv2 : Value} {w w1 w2 : World} (h : Kd B cb mb lv tv w lv1 tv1 w1) (k : Kd B cb mb lv1 tv1 w1 lv2 tv2 w2) : Kd B cb mb lv tv w lv2 tv2 w2 := by
  refine ⟨h.low.trans k.low, fun q h1 h2 h3 h4 h5 => ?_, fun q hq => ?_, fun q hq => ?_⟩
  · refine (k.keep q (Nat.lt_of_lt_of_le h1 h.low.size) h2 h3 (fun e => ?_) (fun e => ?_)).trans (h.keep q h1 h2 h3 h4 h5)
    · rcases h.newl q e.symm with e2 | e2
      · exact h4 e2.symm
      · omega
    · rcases h.newt q e.symm with e2 | e2
      · exact h5 e2.symm
      · omega
  · rcases k.newl q hq with e | e
    · exact h.newl q e
    · exact .inr (Nat.le_trans h.low.size e)
  · rcases k.newt q hq with e | e
    · exact h.newt q e
    · exact .inr (Nat.le_trans h.low.size e)

theorem Kd.of_kt {B cb mb : Nat} {lv tv tv' : Value} {w w' : World} (h : Kt B cb tv w tv' w') : Kd B cb mb lv tv w lv tv' w' :=
  ⟨h.low, fun k h1 h2 _ _ h5 => h.keep k h1 h2 h5, fun q hq => .inl hq, h.new⟩

theorem Kd.of_all {B cb mb : Nat} {lv tv : Value} {w w' : World} (h : Below w.heap.size w w') (hB : B ≤ w.heap.size) : Kd B cb mb lv tv w lv tv w' := .of_kt (Kt.of_all h hB)

theorem Cm.of_kt {B cb mb : Nat} {ns : List ByteArray} {ts tt tt' : List Int} {lv tv tv' : Value} {w w' : World} (h : Cm B cb mb ns ts tt lv tv w) (C' : Ck B cb ts tt' (.map (some mb)) lv tv' w') (K : Kt B cb tv w tv' w') : Cm B cb mb ns ts tt' lv tv' w' :=
  ⟨C', h.M.keep (K.keep mb h.M.lt h.ne.1 (fun e => h.ne.2.2 e.symm)), h.low⟩

theorem Cm.below {B cb mb : Nat} {ns : List ByteArray} {ts tt : List Int} {lv tv : Value} {w w' : World} (h : Cm B cb mb ns ts tt lv tv w) (hb : Below w.heap.size w w') : Cm B cb mb ns ts tt lv tv w' :=
  ⟨h.C.below hb, h.M.keep (hb.block mb h.M.lt), h.low⟩

theorem Ck.pushL {B cb : Nat} {ts tt : List Int} {mv lv tv : Value} {w w3 : World} {o : Obj} {t : Int} {g cap : Nat} (h : Ck B cb ts tt mv lv tv w) (hB : B ≤ w.heap.size)
    (O3 : w3.ownsRow B 3 1 (.slice (some ⟨g, 0, none⟩) (ts.length + 1) cap) (ts.length + 1) (intsV ts ++ [.int .i64 t])) (hgrow : (w.alloc o).grownBy w3 lv.ownBlock) (hat : lv.ownBlock = some g ∨ g = w.heap.size + 1) :
    Row w3 cb #[mv, lv, tv] 87 ∧ Ck B cb (ts ++ [t]) tt mv (.slice (some ⟨g, 0, none⟩) (ts.length + 1) cap) tv (w3.setCell ⟨cb, 1, none⟩ (.slice (some ⟨g, 0, none⟩) (ts.length + 1) cap)) ∧ Below B w (w3.setCell ⟨cb, 1, none⟩ (.slice (some ⟨g, 0, none⟩) (ts.length + 1) cap)) ∧
    (∀ k, k < w.heap.size → k ≠ cb → some k ≠ lv.ownBlock → (w3.setCell ⟨cb, 1, none⟩ (.slice (some ⟨g, 0, none⟩) (ts.length + 1) cap)).heap[k]? = w.heap[k]?) := by
  have n1 := own_ne_row h.row h.lets (by decide)
  have n2 := own_ne_row h.row h.types (by decide)
  have R3 := (h.row.alloc o).grown hgrow (fun e => n1 e.symm)
  have n3 := own_ne_row R3 O3 (by decide)
  have ng : g ≠ cb := fun e => n3 (by rw [e]; rfl)
  have za : (w.alloc o).heap.size = w.heap.size + 1 := by simp
  have kb : ∀ k, k < w.heap.size → k ≠ cb → some k ≠ lv.ownBlock → (w3.setCell ⟨cb, 1, none⟩ (.slice (some ⟨g, 0, none⟩) (ts.length + 1) cap)).heap[k]? = w.heap[k]? := fun k h1 h2 h3 =>
    (heap_setCell_other w3 ⟨cb, 1, none⟩ k _ h2).trans ((hgrow.block k (by rw [za]; omega) h3).trans (Below.heap_alloc w o k h1))
  refine ⟨R3, ⟨R3.set 1 (.slice (some ⟨g, 0, none⟩) (ts.length + 1) cap), ?_, owns_blocks2 h.types (fun q hq => kb q (h.types.lt q hq).2 (fun e => n2 (e ▸ hq)) (fun e => h.apart q e.symm hq)), h.low, fun q hq e => ?_⟩, ?_, kb⟩
  · rw [intsV, List.map_append, List.length_append]
    refine own_set3 O3 ⟨cb, 1, none⟩ _ (fun q hq => ?_)
    have : g = q := by simpa [Value.ownBlock] using hq
    subst this
    exact ng
  · have : g = q := by simpa [Value.ownBlock] using hq
    subst this
    rcases hat with hat | hat
    · exact h.apart g hat e
    · have := (h.types.lt g e).2; omega
  · exact (((Below.refl B w).alloc hB o).grown hgrow (by rw [za]; omega) (fun q hq => (h.lets.lt q hq).1)).setCell (p := ⟨cb, 1, none⟩) h.low _

/-- what declare answers -/
def DeAns (B cb mb : Nat) (ns : List ByteArray) (ts tt : List Int) (lv tv : Value) (nm : ByteArray) (ty : Int) (w : World) (r : Ending) (w' : World) : Prop :=
  (nm ∉ ns ∧ r = .returned .nilIface ∧ ∃ lv', Cm B cb mb (ns ++ [nm]) (ts ++ [ty]) tt lv' tv w' ∧ Kd B cb mb lv tv w lv' tv w') ∨ (nm ∈ ns ∧ (∃ t u, r = .returned (.iface t u)) ∧ Below w.heap.size w w')

set_option maxHeartbeats 1600000 in
set_option maxRecDepth 100000 in
theorem declare_any (B cb mb : Nat) (ns : List ByteArray) (ts tt : List Int) (lv tv : Value) (nm : ByteArray) (ty : Int) (aN aA : Addr) (w : World) (hE : Eok w aN aA) (h : Cm B cb mb ns ts tt lv tv w) (hl : ts.length ≤ 1000) :
    Calls Tryz.prog 71 #[.pointer (some ⟨cb, 0, none⟩), .string nm, .int .i64 ty] w (DeAns B cb mb ns ts tt lv tv nm ty w) := by
  have c0 : w.cell? ⟨cb, 0, none⟩ = some (.map (some mb)) := h.C.row.cell 0
  have c1 : w.cell? ⟨cb, 1, none⟩ = some lv := h.C.row.cell 1
  have ac := hE.ac
  have ha := hE.a
  have hcb := h.C.row.lt
  have hBw : B ≤ w.heap.size := by have := h.C.low; omega
  obtain ⟨ii, hii, ez0, ez1, ez2⟩ := info_parts infoI
  by_cases hs : nm ∈ ns
  · obtain ⟨b, n, t, hlk⟩ := look_yes w mb ns nm h.M hs
    have HX := hide hs
    clear hs
    have B1 := (Below.refl w.heap.size w).alloc (Nat.le_refl _) (.cells #[.bool b, .int .i64 n, .int .i64 t] 117)
    go_enter Tryz.func71, Tryz.ntmps71
    go_wp2_with fail
    go_ret
    exact .inr ⟨unhide HX, ⟨_, _, rfl⟩, B1⟩
  · obtain ⟨b, n, t, hlk⟩ := look_no w mb ns nm h.M hs
    have HX := hide hs
    clear hs
    obtain ⟨x, kx, rfl, _⟩ := owns_form2 h.C.lets
    have hml := h.M.lt
    go_enter Tryz.func71, Tryz.ntmps71
    go_wp2_with fail
    have W0E : ∃ W0, W0 = w.alloc (.cells #[.bool b, .int .i64 n, .int .i64 t] 117) := ⟨_, rfl⟩
    obtain ⟨W0, hW0⟩ := W0E
    have B0 : Below w.heap.size w W0 := by rw [hW0]; exact (Below.refl _ _).alloc (Nat.le_refl _) _
    rw [← hW0]
    clear hW0 c0 c1 hlk ac ha
    have H1 := (h.below B0).below (Below.drew (Below.refl _ _) : Below W0.heap.size W0 W0.drew)
    have D1 := B0.trans ((Below.drew (Below.refl _ _) : Below W0.heap.size W0 W0.drew).mono B0.size)
    have hne := H1.ne
    have d0 : W0.cell? ⟨cb, 0, none⟩ = some (.map (some mb)) := (h.below B0).C.row.cell 0
    have d1 : W0.cell? ⟨cb, 1, none⟩ = some (.slice x ts.length kx) := (h.below B0).C.row.cell 1
    obtain ⟨w3, hup, M3, kp, hsz, bel⟩ := upd_run W0.drew mb ns nm true ts.length ty H1.M (unhide HX)
    have C3 : Ck B cb ts tt (.map (some mb)) (.slice x ts.length kx) tv w3 := ⟨⟨(kp cb hne.1.symm).trans H1.C.row.out⟩, owns_blocks2 H1.C.lets (fun q hq => kp q (fun e => hne.2.1 (e ▸ hq))), owns_blocks2 H1.C.types (fun q hq => kp q (fun e => hne.2.2 (e ▸ hq))), H1.C.low, H1.C.apart⟩
    have e1 : w3.cell? ⟨cb, 1, none⟩ = some (.slice x ts.length kx) := C3.row.cell 1
    have D3 := (D1.mono hBw).trans (bel B h.low)
    have z3 := D3.size
    have hcb3 := C3.row.lt
    clear hsz
    go_region
    all_goals
      go_wp2_with (at_builtin; refine wpList_append_lies _ rfl _ _ 24 rfl B 3 ii (.int .i64 0) 1 8 Tryz.underlying24 hii ez0 ez1 ez2 rfl (by decide) _ _ _ rfl (World.ownsRow.alloc C3.lets _) ⟨w3.heap.size, 0, none⟩ 1 1 [.int .i64 ty] rfl rfl ?c1 ?c2 (by decide) ?c3 ?c4 ?c5 (w3.heap.size + 1) (by simp) ?_)
      case c1 => exact one_cell _ _ _ _ (by simp)
      case c2 => intro u hu; simp at hu; subst hu; rfl
      case c3 => unfold maxLen; omega
      case c4 => omega
      case c5 => simp; omega
      intro g cap w4 O4 hgrow hat hgl
      obtain ⟨R4, C4, B4, kb4⟩ := C3.pushL (by omega) O4 hgrow hat
      have f1 : w4.cell? ⟨cb, 1, none⟩ = some (.slice x ts.length kx) := R4.cell 1
      have ff := R4.frozen 1
      have M4 := M3.keep (kb4 mb M3.lt hne.1 (fun e => hne.2.1 e.symm))
      go_wp2_with fail
      go_ret
      refine .inl ⟨unhide HX, rfl, _, ⟨C4, M4, h.low⟩, ⟨D3.trans B4, fun k h1 h2 h3 h4 h5 => ?_, fun q hq => ?_, fun q hq => .inl hq⟩⟩
      · exact (kb4 k (by omega) h2 h4).trans ((kp k h3).trans (D1.block k h1))
      · have : g = q := by simpa [Value.ownBlock] using hq
        subst this
        rcases hat with hat | hat
        · exact .inl hat
        · right; omega

end Go.Proofs.YtjapdeehnfoonaaGreatDoor

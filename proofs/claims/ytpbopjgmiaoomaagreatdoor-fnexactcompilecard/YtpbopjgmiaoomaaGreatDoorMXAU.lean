/-
  COJ, COK, COL, COM, VPU, ZT1. Own work.
-/
import Derived.Test.YtpbopjgmiaoomaaGreatDoorMXAK
import Derived.Test.YtpbopjgmiaoomaaGreatDoorMXAI
import Derived.Test.YtpbopjgmiaoomaaGreatDoorMXAC
namespace Go.Proofs.YtpbopjgmiaoomaaGreatDoor
open Go.RowKit
set_option linter.unusedVariables false

theorem infoVc : (Tryz.prog.info? 57).map (fun i => (i.zero, i.size, i.bytes)) = some (some (.agg #[.int .i64 0, .int .i64 0, .string ByteArray.empty, .slice none 0 0]), 4, 56) := by kernel_rfl

theorem MapP.ne_own {w : World} {mb : Nat} {P : List Vl} (h : MapP w mb P) {B : Nat} {e : TypeId} {size n : Nat} {v : Value} {xs : List Value} (o : w.ownsRow B e size v n xs) : v.ownBlock ≠ some mb := fun hq => by
  obtain ⟨es, cl, h1, _⟩ := h
  rcases o.2 with ⟨hv, _⟩ | ⟨g, cap, cur, hv, _, hg, _⟩
  · rw [hv] at hq; cases hq
  · rw [hv] at hq
    obtain rfl : g = mb := by simpa [Value.ownBlock] using hq
    rw [h1] at hg
    cases hg

theorem MapP.ne_row {w : World} {mb : Nat} {P : List Vl} (h : MapP w mb P) {b : Nat} {cs : Array Value} {t : TypeId} (r : Row w b cs t) : b ≠ mb := fun e => by
  obtain ⟨es, cl, h1, _⟩ := h
  have := r.out
  rw [e, h1] at this
  cases this

theorem OwnP.not {w w' : World} {lo mb : Nat} {v : Value} {P Q : List Vl} {nv : List Value} (h : OwnP w lo v P nv) (hm : MapP w mb Q) (kp : ∀ k, k ≠ mb → w'.heap[k]? = w.heap[k]?) : OwnP w' lo v P nv :=
  ⟨h.len, owns_blocks h.own (fun q hq => kp q (fun e => hm.ne_own h.own (by rw [hq, e]))), fun j hj hj' => owns_blocks (h.names j hj hj') (fun q hq => kp q (fun e => hm.ne_own (h.names j hj hj') (by rw [hq, e]))), h.apart, h.far⟩

theorem own_ne_own {w : World} {B B' n n' size size' : Nat} {e e' : TypeId} {v v' : Value} {xs xs' : List Value} (h : w.ownsRow B e size v n xs) (h' : w.ownsRow B' e' size' v' n' xs') (hT : e ≠ e') : ∀ q, v.ownBlock = some q → v'.ownBlock ≠ some q := fun q hq hq' => by
  rcases h.2 with ⟨hv, _⟩ | ⟨g, cap, cur, hv, _, hg, _⟩
  · rw [hv] at hq; cases hq
  rcases h'.2 with ⟨hv', _⟩ | ⟨g', cap', cur', hv', _, hg', _⟩
  · rw [hv'] at hq'; cases hq'
  rw [hv] at hq
  rw [hv'] at hq'
  obtain rfl : g = q := by simpa [Value.ownBlock] using hq
  obtain rfl : g' = g := by simpa [Value.ownBlock] using hq'
  rw [hg] at hg'
  injection hg' with hg'
  injection hg' with _ hg'
  exact hT hg'

theorem OwnP.setRow {w : World} {lo b : Nat} {v : Value} {P : List Vl} {nv : List Value} {cs : Array Value} (h : OwnP w lo v P nv) (R : Row w b cs 68) (j : Nat) (u : Value) : OwnP (w.setCell ⟨b, j, none⟩ u) lo v P nv :=
  ⟨h.len, own_set3 h.own _ _ (fun q hq e => own_ne_row R h.own (by decide) (by rw [hq]; exact congrArg some e)), fun i hi hi' => own_set3 (h.names i hi hi') _ _ (fun q hq e => own_ne_row R (h.names i hi hi') (by decide) (by rw [hq]; exact congrArg some e)), h.apart, h.far⟩

theorem CmO.newV {w2 w7 : World} {B cb mb g7 c7 : Nat} {s : Cs} {pv iv u : Value} {nv : List Value} {v : Vl} (o : Obj) (P2 : OwnP w2 B pv s.pool nv) (N2 : w2.ownsRow B 9 1 u v.names.length (v.names.map Value.string)) (I2 : w2.ownsRow B 62 2 iv s.ins.length (insV s.ins)) (RC2 : Row w2 cb #[pv, .int .i64 s.slots, iv, .map (some mb)] 68) (M2 : MapP w2 mb (s.pool ++ [v])) (nd : s.pool.Nodup) (ok : ∀ y ∈ s.pool, okW y) (low : B ≤ cb ∧ B ≤ mb) (hv : okW v) (hn : v ∉ s.pool)
    (hfr : ∀ q, u.ownBlock = some q → pv.ownBlock ≠ some q ∧ ∀ j, (hj : j < nv.length) → nv[j].ownBlock ≠ some q) (hgrow : (w2.alloc o).grownBy w7 pv.ownBlock) (O7 : w7.ownsRow B 57 4 (.slice (some ⟨g7, 0, none⟩) (s.pool.length + 1) c7) (s.pool.length + 1) (vlC s.pool nv ++ vl4 v u)) (hat : pv.ownBlock = some g7 ∨ g7 = w2.heap.size + 1) :
    CmO (w7.setCell ⟨cb, 0, none⟩ (.slice (some ⟨g7, 0, none⟩) (s.pool.length + 1) c7)) B cb mb ⟨s.pool ++ [v], s.slots, s.ins⟩ (.slice (some ⟨g7, 0, none⟩) (s.pool.length + 1) c7) iv (nv ++ [u]) := by
  have C0 := (Below.refl w2.heap.size w2).alloc (Nat.le_refl _) o
  have P1 : OwnP (w2.alloc o) B pv s.pool nv := P2.blocks (fun k _ hk => C0.block k hk)
  have N1 := ownsRow_below N2 C0 (Nat.le_refl _)
  have I1 := ownsRow_below I2 C0 (Nat.le_refl _)
  have R1 := RC2.after C0 (Nat.le_refl _)
  have M1 := M2.keep (C0.block mb M2.lt)
  have P7 := P1.snoc N1 (fun j hj q hq hu => (hfr q hu).2 j hj hq) (fun q hq => (hfr q hq).1) O7 hgrow (fun q hq => by
    have hq' : g7 = q := by simpa [Value.ownBlock] using hq
    subst hq'
    exact hat.imp id (fun e => by simp; omega))
  have hne := own_ne_row R1 P1.own (by decide)
  have R7 := rowGrown R1 hgrow (fun e => hne e.symm)
  have I7 := owns_blocks I1 (fun q hq => hgrow.block q (I1.lt q hq).2 (fun e => own_ne_own I1 P1.own (by decide) q hq e.symm))
  have M7 := M1.keep (hgrow.block mb M1.lt (fun e => M1.ne_own P1.own e.symm))
  refine ⟨R7.set 0 _, P7.setRow R7 0 _, own_set3 I7 _ _ (fun q hq e => own_ne_row R7 I7 (by decide) (by rw [hq]; exact congrArg some e)), M7.keep (heap_setCell_other w7 _ mb _ (fun e => M7.ne_row R7 e.symm)), ?_, ?_, low⟩
  · show (s.pool ++ [v]).Nodup
    rw [List.nodup_append]
    exact ⟨nd, by simp, fun a ha b hb e => by rw [List.mem_singleton] at hb; subst hb; subst e; exact hn ha⟩
  · intro y hy
    have hy' : y ∈ s.pool ++ [v] := hy
    rw [List.mem_append, List.mem_singleton] at hy'
    rcases hy' with h | h
    · exact ok y h
    · rw [h]; exact hv

/-- what is not the compiler's lies as it lay -/
def Kf (w w' : World) : Prop := ∀ k cs t, Row w k cs t → t ≠ 68 → t ≠ 57 → t ≠ 62 → Row w' k cs t

theorem Kf.trans {a b c : World} (h : Kf a b) (g : Kf b c) : Kf a c := fun k cs t R h1 h2 h3 => g k cs t (h k cs t R h1 h2 h3) h1 h2 h3

theorem Kf.of_below {w w' : World} (h : Below w.heap.size w w') : Kf w w' := fun k cs t R _ _ _ => R.after h (Nat.le_refl _)

theorem Row.ne_type {w : World} {k b : Nat} {cs ds : Array Value} {t T : TypeId} (R : Row w k cs t) (Q : Row w b ds T) (h : t ≠ T) : k ≠ b := fun e => by
  subst e
  have := R.out.symm.trans Q.out
  simp at this
  exact h this.2

theorem Kf.newV {w w2 w7 : World} {B cb n : Nat} {pv u : Value} {xs : List Value} {cs : Array Value} {o : Obj} (F : Kf w w2) (O2 : w2.ownsRow B 57 4 pv n xs) (hg : (w2.alloc o).grownBy w7 pv.ownBlock) (R7 : Row w7 cb cs 68) : Kf w (w7.setCell ⟨cb, 0, none⟩ u) := fun k ks t R h1 h2 h3 => by
  have Q := F k ks t R h1 h2 h3
  have hne := own_ne_row Q O2 h2
  have Q7 := rowGrown (Q.alloc o) hg (fun e => hne e.symm)
  exact ⟨(heap_setCell_other w7 ⟨cb, 0, none⟩ k u (Q7.ne_type R7 h1)).trans Q7.out⟩

set_option maxRecDepth 100000 in
set_option maxHeartbeats 6400000 in
theorem placeOf_new (B cb mb : Nat) (s : Cs) (pv iv : Value) (nv : List Value) (v : Vl) (x : Option Addr) (cx : Nat) (w : World) (h : CmO w B cb mb s pv iv nv) (hv : okW v) (hvB : valB v = true) (hN : w.ownsRow B 9 1 (.slice x v.names.length cx) v.names.length (v.names.map Value.string)) (hfr : ∀ q, (Value.slice x v.names.length cx).ownBlock = some q → pv.ownBlock ≠ some q ∧ ∀ j, (hj : j < nv.length) → nv[j].ownBlock ≠ some q) (hf : findV v s.pool 0 = none) (hB : B ≤ w.heap.size) (hlen : s.pool.length ≤ 1048576) :
    Calls Tryz.prog 87 #[.pointer (some ⟨cb, 0, none⟩), .agg #[.int .i64 v.kind, .int .i64 v.num, .string v.text, .slice x v.names.length cx]] w fun r w' => r = .returned (.int .i64 (s.pool.length : Nat)) ∧ (∃ pv', CmO w' B cb mb ⟨s.pool ++ [v], s.slots, s.ins⟩ pv' iv (nv ++ [.slice x v.names.length cx])) ∧ Below B w w' ∧ Kf w w' := by
  obtain ⟨ti, hti, hz0, hz1, hz2⟩ := info_parts infoVc
  have hsm := okW_small hv
  have A1 := (Below.refl w.heap.size w).alloc (Nat.le_refl _) (.cells #[.int .i64 v.kind, .int .i64 v.num, .string v.text, .slice x v.names.length cx] 57)
  have A2 := A1.alloc A1.size (.cells #[.int .i64 0, .int .i64 0, .int .i64 0, .slice none 0 0] 193)
  have RV := (Row.new w #[.int .i64 v.kind, .int .i64 v.num, .string v.text, .slice x v.names.length cx] 57).alloc (.cells #[.int .i64 0, .int .i64 0, .int .i64 0, .slice none 0 0] 193)
  have RW := Row.new (w.alloc (.cells #[.int .i64 v.kind, .int .i64 v.num, .string v.text, .slice x v.names.length cx] 57)) #[.int .i64 0, .int .i64 0, .int .i64 0, .slice none 0 0] 193
  simp only [World.size_alloc] at RW
  have HV := hide (value_any (w.heap.size + 1) 0 0 0 (.slice none 0 0) [] v x v.names.length cx _ ⟨RW, World.ownsRow_nil _ _ _ _⟩ (by simp) hvB (w.alloc (.cells #[.int .i64 v.kind, .int .i64 v.num, .string v.text, .slice x v.names.length cx] 57)) ((Strs.of_owns hN (fun j hj => by rw [nth_eq _ j hj]; have := hsm.2.2 _ (List.getElem_mem hj); unfold maxLen; omega)).below A1 (Nat.le_refl _)) (by simp) ((Below.refl _ _).alloc (Nat.le_refl _) _) (by omega))
  have HH := hide (And.intro h hN)
  have HP := hide (And.intro hv (And.intro hf hfr))
  clear h hN hv hvB hf hsm hfr
  go_enter Tryz.func87, Tryz.ntmps87
  go_wp2_with fail
  refine (unhide HV).mono ?_
  rintro r w1 ⟨rfl, v', hW, hKK, hb⟩
  have BW := A2.trans (hb.mono (by omega))
  have H1 := (unhide HH).1.below BW
  have N1 := ownsRow_below (unhide HH).2 BW (Nat.le_refl _)
  have RV1 := RV.below hb (by omega)
  rw [List.nil_append] at hW
  obtain ⟨y, cy, rfl, _⟩ := owns_form2 hW.own
  have hcv := conv_key hW.own rfl (valE_pos v)
  have hlk := run_lookV w1 mb s.pool v H1.map H1.nd H1.ok (unhide HP).1
  rw [(unhide HP).2.1] at hlk
  obtain ⟨w2, hup, M2, kp, hsz, bel⟩ := run_updV w1 mb s.pool v H1.map H1.ok (unhide HP).1 (findV_none (unhide HP).2.1)
  have HF := hide ((Kf.of_below BW).trans (fun k cs t R _ _ _ => (⟨(kp k (H1.map.ne_row R)).trans R.out⟩ : Row w2 k cs t)))
  have P2 := H1.pool.not H1.map kp
  have N2 := owns_blocks N1 (fun q hq => kp q (fun e => H1.map.ne_own N1 (by rw [hq, e])))
  have I2 := owns_blocks H1.ins (fun q hq => kp q (fun e => H1.map.ne_own H1.ins (by rw [hq, e])))
  have RC2 : Row w2 cb _ 68 := ⟨(kp cb (H1.map.ne_row H1.row)).trans H1.row.out⟩
  have RV2 : Row w2 w.heap.size _ 57 := ⟨(kp _ (H1.map.ne_row RV1)).trans RV1.out⟩
  obtain ⟨pa, pc, hpv, _⟩ := owns_form2 P2.own
  have c0' := H1.row.cell 0
  subst hpv
  obtain ⟨c0, c1, c2, c3⟩ := row4C H1.row
  obtain ⟨u0, u1, u2, u3⟩ := row4C RC2
  obtain ⟨a0, a1, a2, a3⟩ := row4C RV2
  obtain ⟨w0, w1', w2', w3'⟩ := row4C hW.row
  have BB := (BW.mono hB).trans (bel B H1.low.2)
  have C0 := (Below.refl w2.heap.size w2).alloc (Nat.le_refl _) (.cells #[.int .i64 v.kind, .int .i64 v.num, .string v.text, .slice x v.names.length cx] 57)
  have NW := World.news_of_block (heap_alloc_new w2 (.cells #[.int .i64 v.kind, .int .i64 v.num, .string v.text, .slice x v.names.length cx] 57))
  have HX := hide (And.intro P2 (And.intro N2 (And.intro I2 (And.intro RC2 (And.intro M2 (And.intro BB (And.intro H1.nd (And.intro H1.ok H1.low))))))))
  have O2 := P2.own
  have FZ := RC2.frozen 0
  have HRC := hide RC2
  have hne : (Value.slice pa s.pool.length pc).ownBlock ≠ some cb := own_ne_row RC2 P2.own (by decide)
  have HSZ := hide (And.intro hsz (show B ≤ w1.heap.size from Nat.le_trans hB BW.size))
  clear A1 A2 RW RV HV hKK hb BW H1 hW HH RV1 RV2 RC2 P2 N2 I2 N1 M2 BB bel kp hsz c0'
  generalize (valE v).length = nn at *
  dsimp only
  go_wp2_with fail
  have d0 : w2.drew.cell? ⟨cb, 0, none⟩ = some (.slice pa s.pool.length pc) ∧ w2.drew.frozen? ⟨cb, 0, none⟩ = false := ⟨u0, FZ⟩
  have e0 : w2.drew.cell? ⟨w.heap.size, 0, none⟩ = some (.int .i64 v.kind) := a0
  have e1 : w2.drew.cell? ⟨w.heap.size, 1, none⟩ = some (.int .i64 v.num) := a1
  have e2 : w2.drew.cell? ⟨w.heap.size, 2, none⟩ = some (.string v.text) := a2
  have e3 : w2.drew.cell? ⟨w.heap.size, 3, none⟩ = some (.slice x v.names.length cx) := a3
  have ow : (w2.alloc (.cells #[.int .i64 v.kind, .int .i64 v.num, .string v.text, .slice x v.names.length cx] 57)).drew.ownsRow B 57 4 (.slice pa s.pool.length pc) s.pool.length (vlC s.pool nv) := (World.ownsRow.alloc O2 _).drew
  have RCd : Row (w2.alloc (.cells #[.int .i64 v.kind, .int .i64 v.num, .string v.text, .slice x v.names.length cx] 57)).drew cb #[.slice pa s.pool.length pc, .int .i64 s.slots, iv, .map (some mb)] 68 := ⟨((unhide HRC).alloc (.cells #[.int .i64 v.kind, .int .i64 v.num, .string v.text, .slice x v.names.length cx] 57)).out⟩
  have dd := RCd.cell 0
  go_region_law (refine step_append_lies _ rfl _ _ 28 rfl B 57 ti (.agg #[.int .i64 0, .int .i64 0, .string ByteArray.empty, .slice none 0 0]) 4 56 Tryz.underlying28 hti hz0 hz1 hz2 rfl (by decide) (.slice pa s.pool.length pc) s.pool.length (vlC s.pool nv) rfl ow ⟨w2.heap.size, 0, none⟩ 1 1 [.int .i64 v.kind, .int .i64 v.num, .string v.text, .slice x v.names.length cx] rfl rfl NW (by intro u hu; simp at hu; rcases hu with rfl | rfl | rfl | rfl <;> rfl) (by decide) (by unfold maxLen; omega) (by omega) (by have := unhide HSZ; simp; omega) _ rfl ?_; intro g7 c7 w7 O7 hgrow hat hlt; have R7 := rowGrown RCd hgrow (fun e => hne e.symm); have t0 := R7.cell 0; have t1 := R7.frozen 0)
  all_goals
    have HC := hide (CmO.newV (unhide HX).1 (unhide HX).2.1 (unhide HX).2.2.1 (unhide HX).2.2.2.1 (unhide HX).2.2.2.2.1 (unhide HX).2.2.2.2.2.2.1 (unhide HX).2.2.2.2.2.2.2.1 (unhide HX).2.2.2.2.2.2.2.2 (unhide HP).1 (findV_none (unhide HP).2.1) (unhide HP).2.2 (w7 := w7) (o := (.cells #[.int .i64 v.kind, .int .i64 v.num, .string v.text, .slice x v.names.length cx] 57)) ⟨hgrow.os, hgrow.tape, hgrow.output, hgrow.size, hgrow.block⟩ O7 (hat.imp id (fun e => by rw [e]; show (w2.alloc _).heap.size = _; simp)))
    have hg2 : (w2.alloc (.cells #[.int .i64 v.kind, .int .i64 v.num, .string v.text, .slice x v.names.length cx] 57)).grownBy w7 (Value.slice pa s.pool.length pc).ownBlock := ⟨hgrow.os, hgrow.tape, hgrow.output, hgrow.size, hgrow.block⟩
    have HB7 := hide ((((unhide HX).2.2.2.2.2.1.alloc (by have := unhide HSZ; omega) (.cells #[.int .i64 v.kind, .int .i64 v.num, .string v.text, .slice x v.names.length cx] 57)).grown hg2 (by have := unhide HSZ; simp; omega) (fun q hq => (O2.lt q hq).1)).setCell (p := ⟨cb, 0, none⟩) (unhide HX).2.2.2.2.2.2.2.2.1 (.slice (some ⟨g7, 0, none⟩) (s.pool.length + 1) c7))
    have HK := hide (Kf.newV (u := .slice (some ⟨g7, 0, none⟩) (s.pool.length + 1) c7) (unhide HF) O2 hg2 R7)
    clear hgrow hg2 hat O7 ow
    go_wp2_with fail
    go_ret
    exact ⟨rfl, ⟨_, unhide HC⟩, unhide HB7, unhide HK⟩

end Go.Proofs.YtpbopjgmiaoomaaGreatDoor

namespace Go.Proofs.YtpbopjgmiaoomaaGreatDoor
open Go.RowKit
set_option linter.unusedVariables false

theorem placeOf_any (B cb mb : Nat) (s : Cs) (pv iv : Value) (nv : List Value) (v : Vl) (x : Option Addr) (cx : Nat) (w : World) (h : CmO w B cb mb s pv iv nv) (hv : okW v) (hvB : valB v = true) (hN : w.ownsRow B 9 1 (.slice x v.names.length cx) v.names.length (v.names.map Value.string)) (hfr : ∀ q, (Value.slice x v.names.length cx).ownBlock = some q → pv.ownBlock ≠ some q ∧ ∀ j, (hj : j < nv.length) → nv[j].ownBlock ≠ some q) (hB : B ≤ w.heap.size) (hlen : s.pool.length ≤ 1048576) :
    Calls Tryz.prog 87 #[.pointer (some ⟨cb, 0, none⟩), .agg #[.int .i64 v.kind, .int .i64 v.num, .string v.text, .slice x v.names.length cx]] w fun r w' => r = .returned (.int .i64 (placeV s.pool v)) ∧ (∃ pv' nv', CmO w' B cb mb ⟨poolW s.pool v, s.slots, s.ins⟩ pv' iv nv') ∧ Below B w w' ∧ Kf w w' := by
  cases hf : findV v s.pool 0 with
  | none =>
    refine (placeOf_new B cb mb s pv iv nv v x cx w h hv hvB hN hfr hf hB hlen).mono ?_
    rintro r w' ⟨hr, ⟨pv', hC⟩, hb, hk⟩
    refine ⟨by rw [hr]; simp [placeV, hf], ⟨pv', nv ++ [.slice x v.names.length cx], ?_⟩, hb, hk⟩
    have e : poolW s.pool v = s.pool ++ [v] := by simp [poolW, hf]
    rw [e]
    exact hC
  | some k =>
    refine (placeOf_old B cb mb s pv iv nv v x cx w h hv hvB hN k hf hB).mono ?_
    rintro r w' ⟨hr, hC, hb⟩
    refine ⟨by rw [hr]; simp [placeV, hf], ⟨pv, nv, ?_⟩, hb.mono hB, Kf.of_below hb⟩
    have e : poolW s.pool v = s.pool := by simp [poolW, hf]
    rw [e]
    exact hC

end Go.Proofs.YtpbopjgmiaoomaaGreatDoor

namespace Go.Proofs.YtpbopjgmiaoomaaGreatDoor
open Go.RowKit
set_option linter.unusedVariables false

theorem CmO.kept {w w' : World} {B cb mb : Nat} {s : Cs} {pv iv iv' : Value} {nv : List Value} {I' : List Is1} (h : CmO w B cb mb s pv iv nv) (hB : B ≤ w.heap.size) (K : Kpt (fun k => k = cb ∨ iv.ownBlock = some k) w w') (R : Row w' cb #[pv, .int .i64 s.slots, iv', .map (some mb)] 68) (O : w'.ownsRow B 62 2 iv' I'.length (insV I')) :
    CmO w' B cb mb ⟨s.pool, s.slots, I'⟩ pv iv' nv ∧ Below B w w' ∧ Kf w w' := by
  have hk : ∀ q, q < w.heap.size → q ≠ cb → iv.ownBlock ≠ some q → w'.heap[q]? = w.heap[q]? := fun q hq h1 h2 => K.block q hq (fun e => e.elim h1 h2)
  have P := h.pool
  refine ⟨⟨R, ⟨P.len, ?_, ?_, P.apart, P.far⟩, O, ?_, h.nd, h.ok, h.low⟩, ⟨K.os, K.tape, K.output, K.size, fun k hk' => ?_⟩, fun k ks t Q h1 h2 h3 => ⟨(hk k Q.lt (Q.ne_type h.row h1) (own_ne_row Q h.ins h3)).trans Q.out⟩⟩
  · exact owns_blocks P.own (fun q hq => hk q (P.own.lt q hq).2 (fun e => own_ne_row h.row P.own (by decide) (by rw [hq, e])) (own_ne_own P.own h.ins (by decide) q hq))
  · intro j hj hj'
    have o := P.names j hj hj'
    exact owns_blocks o (fun q hq => hk q (o.lt q hq).2 (fun e => own_ne_row h.row o (by decide) (by rw [hq, e])) (own_ne_own o h.ins (by decide) q hq))
  · exact h.map.keep (hk mb h.map.lt (fun e => h.map.ne_row h.row e.symm) (h.map.ne_own h.ins))
  · refine hk k (by omega) (fun e => ?_) (fun e => ?_)
    · have := h.low.1; omega
    · have := (h.ins.lt k e).1; omega

theorem writeC_any (B cb mb : Nat) (s : Cs) (pv iv : Value) (nv : List Value) (op arg : Int) (w : World) (h : CmO w B cb mb s pv iv nv) (hB : B ≤ w.heap.size) (hn : s.ins.length ≤ 1048576) :
    Calls Tryz.prog 58 #[.pointer (some ⟨cb, 0, none⟩), .int .i64 op, .int .i64 arg] w fun r w' => r = .returned (.int .i64 s.ins.length) ∧ (∃ iv', CmO w' B cb mb ⟨s.pool, s.slots, s.ins ++ [⟨op, arg⟩]⟩ pv iv' nv) ∧ Below B w w' ∧ Kf w w' := by
  obtain ⟨ia, ic, hiv, _⟩ := owns_form2 h.ins
  subst hiv
  refine (write_any cb B pv s.slots (.map (some mb)) ia ic s.ins op arg w h.row h.ins hn h.low.1).mono ?_
  rintro r w' ⟨hr, g, cap, R, O, _, K⟩
  obtain ⟨hC, hb⟩ := h.kept (I' := s.ins ++ [⟨op, arg⟩]) hB K R (by rw [List.length_append, List.length_singleton]; exact O)
  exact ⟨hr, ⟨_, hC⟩, hb⟩

theorem leadC_any (B cb mb : Nat) (s : Cs) (pv iv : Value) (nv : List Value) (k : Nat) (hk : k < s.ins.length) (w : World) (h : CmO w B cb mb s pv iv nv) (hB : B ≤ w.heap.size) (hn : s.ins.length ≤ 1048576) :
    Calls Tryz.prog 60 #[.pointer (some ⟨cb, 0, none⟩), .int .i64 k] w fun r w' => r = .returned (.tuple #[]) ∧ (∃ iv', CmO w' B cb mb ⟨s.pool, s.slots, s.ins.modify k fun i => ⟨i.op, s.ins.length⟩⟩ pv iv' nv) ∧ Below B w w' ∧ Kf w w' := by
  obtain ⟨ia, ic, hiv, _⟩ := owns_form2 h.ins
  subst hiv
  refine (leadHere_any cb B pv s.slots (.map (some mb)) ia ic s.ins k hk w h.row h.ins hn h.low.1).mono ?_
  rintro r w' ⟨hr, R, O, K⟩
  obtain ⟨hC, hb⟩ := h.kept (I' := s.ins.modify k fun i => ⟨i.op, s.ins.length⟩) hB ⟨K.os, K.tape, K.output, K.size, fun q hq hS => K.block q hq (fun e => hS (.inr e))⟩ R (by rw [List.length_modify]; exact O)
  exact ⟨hr, ⟨_, hC⟩, hb⟩

end Go.Proofs.YtpbopjgmiaoomaaGreatDoor

namespace Go.Proofs.YtpbopjgmiaoomaaGreatDoor
open Go.RowKit
set_option linter.unusedVariables false

/-- the compiler in memory, all below the start as it was -/
def Cst (w0 : World) (cb mb : Nat) (s : Cs) (w : World) : Prop := (∃ pv iv nv, CmO w w0.heap.size cb mb s pv iv nv) ∧ Below w0.heap.size w0 w

theorem Cst.below {w0 w w' : World} {cb mb : Nat} {s : Cs} (h : Cst w0 cb mb s w) (hb : Below w.heap.size w w') : Cst w0 cb mb s w' := by
  obtain ⟨⟨pv, iv, nv, hC⟩, h2⟩ := h
  exact ⟨⟨pv, iv, nv, hC.below hb⟩, h2.trans (hb.mono h2.size)⟩

theorem writeS (w0 : World) (cb mb : Nat) (s : Cs) (op arg : Int) (w : World) (h : Cst w0 cb mb s w) (hn : s.ins.length ≤ 1048576) :
    Calls Tryz.prog 58 #[.pointer (some ⟨cb, 0, none⟩), .int .i64 op, .int .i64 arg] w fun r w' => r = .returned (.int .i64 s.ins.length) ∧ Cst w0 cb mb ⟨s.pool, s.slots, s.ins ++ [⟨op, arg⟩]⟩ w' ∧ Kf w w' := by
  obtain ⟨⟨pv, iv, nv, hC⟩, h2⟩ := h
  refine (writeC_any w0.heap.size cb mb s pv iv nv op arg w hC h2.size hn).mono ?_
  rintro r w' ⟨hr, ⟨iv', hC'⟩, hb, hkf⟩
  exact ⟨hr, ⟨⟨pv, iv', nv, hC'⟩, h2.trans hb⟩, hkf⟩

theorem leadS (w0 : World) (cb mb : Nat) (s : Cs) (k : Nat) (hk : k < s.ins.length) (w : World) (h : Cst w0 cb mb s w) (hn : s.ins.length ≤ 1048576) :
    Calls Tryz.prog 60 #[.pointer (some ⟨cb, 0, none⟩), .int .i64 k] w fun r w' => r = .returned (.tuple #[]) ∧ Cst w0 cb mb ⟨s.pool, s.slots, s.ins.modify k fun i => ⟨i.op, s.ins.length⟩⟩ w' ∧ Kf w w' := by
  obtain ⟨⟨pv, iv, nv, hC⟩, h2⟩ := h
  refine (leadC_any w0.heap.size cb mb s pv iv nv k hk w hC h2.size hn).mono ?_
  rintro r w' ⟨hr, ⟨iv', hC'⟩, hb, hkf⟩
  exact ⟨hr, ⟨⟨pv, iv', nv, hC'⟩, h2.trans hb⟩, hkf⟩

/-- a value of its own, made just now, finds its place -/
theorem placeS (w0 : World) (cb mb : Nat) (s : Cs) (v : Vl) (x : Option Addr) (cx : Nat) (w w1 : World) (h : Cst w0 cb mb s w) (hb : Below w.heap.size w w1) (hN : w1.ownsRow w.heap.size 9 1 (.slice x v.names.length cx) v.names.length (v.names.map Value.string)) (hv : okW v) (hvB : valB v = true) (hlen : s.pool.length ≤ 1048576) :
    Calls Tryz.prog 87 #[.pointer (some ⟨cb, 0, none⟩), .agg #[.int .i64 v.kind, .int .i64 v.num, .string v.text, .slice x v.names.length cx]] w1 fun r w' => r = .returned (.int .i64 (placeV s.pool v)) ∧ Cst w0 cb mb ⟨poolW s.pool v, s.slots, s.ins⟩ w' ∧ Kf w1 w' := by
  have h1 := h.below hb
  obtain ⟨⟨pv, iv, nv, hC⟩, h2⟩ := h
  have hs := h2.size
  have h12 := h1.2
  refine (placeOf_any w0.heap.size cb mb s pv iv nv v x cx w1 (hC.below hb) hv hvB (own_lowC hN hs) (fun q hq => ?_) h12.size hlen).mono ?_
  · have hq1 := (hN.lt q hq).1
    refine ⟨fun e => ?_, fun j hj e => ?_⟩
    · have := (hC.pool.lts.1 q e).2; omega
    · have := (hC.pool.lts.2 j hj q e).2; omega
  · rintro r w' ⟨hr, ⟨pv', nv', hC'⟩, hb', hkf⟩
    exact ⟨hr, ⟨⟨pv', iv, nv', hC'⟩, h12.trans hb'⟩, hkf⟩

end Go.Proofs.YtpbopjgmiaoomaaGreatDoor

namespace Go.Proofs.YtpbopjgmiaoomaaGreatDoor
open Go.RowKit
set_option linter.unusedVariables false

/-- numbers, of any length -/
structure IntsR (w : World) (a : Option Addr) (n c : Nat) (L : List Int) : Prop where
  len : L.length = n
  cap : n ≤ c
  small : c ≤ maxLen
  cells : ∀ j, (h : j < L.length) → ∃ b off, a = some ⟨b, off, none⟩ ∧ b < w.heap.size ∧ w.cell? ⟨b, off + j, none⟩ = some (.int .i64 L[j])

def NdAtR (w : World) (b o : Nat) (x : Nd) : Prop := ∃ an nn cn ak nk ck, w.cell? ⟨b, o, none⟩ = some (.int .i64 x.op) ∧ w.cell? ⟨b, o + 1, none⟩ = some (.int .i64 x.num) ∧ w.cell? ⟨b, o + 2, none⟩ = some (.string x.text) ∧ w.cell? ⟨b, o + 3, none⟩ = some (.slice an nn cn) ∧ w.cell? ⟨b, o + 4, none⟩ = some (.slice ak nk ck) ∧ Strs w an nn cn x.names ∧ IntsR w ak nk ck x.kids

structure NdsR (w : World) (a : Option Addr) (n c : Nat) (L : List Nd) : Prop where
  len : L.length = n
  cap : n ≤ c
  small : c ≤ maxLen
  sizes : ∀ x ∈ L, x.text.size ≤ maxLen
  cells : ∀ j, (h : j < L.length) → ∃ b off, a = some ⟨b, off, none⟩ ∧ b < w.heap.size ∧ NdAtR w b (off + j * 5) L[j]

structure StsR (w : World) (a : Option Addr) (n c : Nat) (L : List St) : Prop where
  len : L.length = n
  cap : n ≤ c
  small : c ≤ maxLen
  sizes : ∀ s ∈ L, s.name.size ≤ maxLen
  cells : ∀ j, (h : j < L.length) → ∃ b off, a = some ⟨b, off, none⟩ ∧ b < w.heap.size ∧ w.cell? ⟨b, off + j * 4, none⟩ = some (.int .i64 L[j].kind) ∧ w.cell? ⟨b, off + j * 4 + 1, none⟩ = some (.string L[j].name) ∧ w.cell? ⟨b, off + j * 4 + 2, none⟩ = some (.int .i64 L[j].cond) ∧ w.cell? ⟨b, off + j * 4 + 3, none⟩ = some (.int .i64 L[j].grant)

theorem IntsR.below {w w' : World} {B : Nat} {a : Option Addr} {n c : Nat} {L : List Int} (h : IntsR w a n c L) (hb : Below B w w') (hB : w.heap.size ≤ B) : IntsR w' a n c L :=
  ⟨h.len, h.cap, h.small, fun j hj => by
    obtain ⟨b, off, ha, hl, c0⟩ := h.cells j hj
    exact ⟨b, off, ha, Nat.lt_of_lt_of_le hl hb.size, (hb.cell (p := ⟨b, off + j, none⟩) (by show b < B; omega)).trans c0⟩⟩

theorem NdAtR.below {w w' : World} {B b o : Nat} {x : Nd} (h : NdAtR w b o x) (hl : b < w.heap.size) (hb : Below B w w') (hB : w.heap.size ≤ B) : NdAtR w' b o x := by
  obtain ⟨an, nn, cn, ak, nk, ck, c0, c1, c2, c3, c4, hN, hK⟩ := h
  have hl' : b < B := by omega
  exact ⟨an, nn, cn, ak, nk, ck, (hb.cell (p := ⟨b, o, none⟩) hl').trans c0, (hb.cell (p := ⟨b, o + 1, none⟩) hl').trans c1, (hb.cell (p := ⟨b, o + 2, none⟩) hl').trans c2, (hb.cell (p := ⟨b, o + 3, none⟩) hl').trans c3, (hb.cell (p := ⟨b, o + 4, none⟩) hl').trans c4, hN.below hb hB, hK.below hb hB⟩

theorem NdsR.below {w w' : World} {B : Nat} {a : Option Addr} {n c : Nat} {L : List Nd} (h : NdsR w a n c L) (hb : Below B w w') (hB : w.heap.size ≤ B) : NdsR w' a n c L :=
  ⟨h.len, h.cap, h.small, h.sizes, fun j hj => by
    obtain ⟨b, off, ha, hl, hc⟩ := h.cells j hj
    exact ⟨b, off, ha, Nat.lt_of_lt_of_le hl hb.size, hc.below hl hb hB⟩⟩

theorem StsR.below {w w' : World} {B : Nat} {a : Option Addr} {n c : Nat} {L : List St} (h : StsR w a n c L) (hb : Below B w w') (hB : w.heap.size ≤ B) : StsR w' a n c L :=
  ⟨h.len, h.cap, h.small, h.sizes, fun j hj => by
    obtain ⟨b, off, ha, hl, c0, c1, c2, c3⟩ := h.cells j hj
    have hl' : b < B := by omega
    exact ⟨b, off, ha, Nat.lt_of_lt_of_le hl hb.size, (hb.cell (p := ⟨b, off + j * 4, none⟩) hl').trans c0, (hb.cell (p := ⟨b, off + j * 4 + 1, none⟩) hl').trans c1, (hb.cell (p := ⟨b, off + j * 4 + 2, none⟩) hl').trans c2, (hb.cell (p := ⟨b, off + j * 4 + 3, none⟩) hl').trans c3⟩⟩

/-- a node that the law lets by -/
def smallNd (x : Nd) : Prop := x.text.size ≤ 1048576 ∧ x.names.length ≤ 1048576 ∧ tot x.names ≤ 1048576 ∧ x.kids.length ≤ 1048576

/-- what a look at a size leaves: -1, or no more than there was, and then P -/
def Left (L : Int) (P : Prop) (e : Ending) : Prop := ∃ r : Int, e = .returned (.int .i64 r) ∧ (r = -1 ∨ 0 ≤ r ∧ r ≤ L ∧ P)

theorem left_no (L : Int) (P : Prop) : Left L P (.returned (.int .i64 (-1))) := ⟨_, rfl, .inl rfl⟩

set_option maxHeartbeats 800000 in
theorem szIntS_any (a : Option Addr) (n c : Nat) (L : Int) (w : World) (hn : n ≤ maxLen) (hL : -1 ≤ L) (hL' : L ≤ 1048576) :
    Calls Tryz.prog 15 #[.slice a n c, .int .i64 L] w fun e w' => Left L (n ≤ 1048576) e ∧ w' = w := by
  unfold maxLen at hn
  by_cases h0 : L - n < 0
  · go_enter Tryz.func15, Tryz.ntmps15
    go_wp2
    go_ret
    exact ⟨left_no _ _, rfl⟩
  · have h0' : 0 ≤ L - n := by omega
    go_enter Tryz.func15, Tryz.ntmps15
    go_wp2
    go_ret
    exact ⟨⟨_, rfl, .inr ⟨by omega, by omega, by omega⟩⟩, rfl⟩

set_option maxRecDepth 100000 in
set_option maxHeartbeats 1600000 in
theorem szNode_any (x : Nd) (an : Option Addr) (nn cn : Nat) (ak : Option Addr) (nk ck : Nat) (L : Int) (w : World) (hN : Strs w an nn cn x.names) (hK : nk = x.kids.length) (hk : nk ≤ maxLen) (hs : x.text.size ≤ maxLen) (hL : -1 ≤ L) (hL' : L ≤ 1048576) :
    Calls Tryz.prog 39 #[.agg #[.int .i64 x.op, .int .i64 x.num, .string x.text, .slice an nn cn, .slice ak nk ck], .int .i64 L] w fun e w' => Left L (smallNd x) e ∧ Below w.heap.size w w' := by
  have R0 := Row.new w #[.int .i64 x.op, .int .i64 x.num, .string x.text, .slice an nn cn, .slice ak nk ck] 90
  have B0 := (Below.refl w.heap.size w).alloc (Nat.le_refl _) (.cells #[.int .i64 x.op, .int .i64 x.num, .string x.text, .slice an nn cn, .slice ak nk ck] 90)
  have N0 := hN.below B0 (Nat.le_refl _)
  have Hn := hide hN.len
  have HK := hide hK
  have hs' := hs
  unfold maxLen at hs'
  clear hK hN
  by_cases h0 : L - x.text.size < 0
  · go_enter Tryz.func39, Tryz.ntmps39
    go_wp2
    go_ret
    exact ⟨left_no _ _, B0⟩
  · have h0' : 0 ≤ L - x.text.size := by omega
    go_enter Tryz.func39, Tryz.ntmps39
    go_wp2_with (first
      | (go_at_call 68; refine (szStringS_any _ _ _ _ _ _ N0 (by omega) (by omega)).mono ?_; rintro e w2 ⟨⟨r, rfl, hr⟩, hw2⟩; rw [hw2]; clear hw2; have hr1 : -1 ≤ r ∧ r ≤ 1048576 := (by rcases hr with h | h <;> omega); have Hr := hide hr; clear hr)
      | (go_at_call 15; refine (szIntS_any _ _ _ _ _ hk (by omega) (by omega)).mono ?_; rintro e w3 ⟨⟨r2, rfl, hr2⟩, hw3⟩; rw [hw3]; clear hw3; have Hr2 := hide hr2; clear hr2))
    all_goals
      go_ret
      first
        | exact ⟨left_no _ _, B0⟩
        | (have a1 := unhide Hr
           have a2 := unhide Hr2
           have a3 := unhide Hn
           have a4 := unhide HK
           exact ⟨⟨_, rfl, .inr ⟨by omega, by omega, by omega, by omega, by omega, by omega⟩⟩, B0⟩)

set_option maxRecDepth 100000 in
set_option maxHeartbeats 1600000 in
theorem szNodeS_any (a : Option Addr) (n c : Nat) (N : List Nd) (L : Int) (w : World) (h : NdsR w a n c N) (hL : -1 ≤ L) (hL' : L ≤ 1048576) :
    Calls Tryz.prog 13 #[.slice a n c, .int .i64 L] w fun e w' => Left L (n ≤ 1048576 ∧ ∀ x ∈ N, smallNd x) e ∧ Below w.heap.size w w' := by
  have hn : n ≤ 9223372036854775807 := by have := h.cap; have := h.small; unfold maxLen at this; omega
  have Hl := hide h.len
  by_cases h0 : L - n < 0
  · go_enter Tryz.func13, Tryz.ntmps13
    go_wp2
    go_ret
    exact ⟨left_no _ _, Below.refl _ _⟩
  · have h0' : 0 ≤ L - n := by omega
    have h0b : (L - n < 0) = False := by simp; omega
    go_enter Tryz.func13, Tryz.ntmps13
    go_wp2_with fail
    go_loopw [1, 4, 5] (fun l _ i wr => ∃ (k : Nat) (r : Int), k ≤ n ∧ i = .int .i64 k ∧ l = .int .i64 r ∧ 0 ≤ r ∧ r ≤ L ∧ Below w.heap.size w wr ∧ Hid (∀ j, (hj : j < N.length) → j < k → smallNd N[j])) (fun _ _ i _ => n - (intOf i).toNat)
    case atStart => exact ⟨0, L - n, by omega, rfl, rfl, by omega, by omega, Below.refl _ _, hide (fun j _ h => absurd h (by omega))⟩
    case round =>
      obtain ⟨k, r, hk, rfl, rfl, hr0, hrL, B1, Ha⟩ := hrel
      by_cases hlt : k < n
      · have ilt : (k : Int) < (n : Int) := by omega
        have hkl : k < N.length := by rw [unhide Hl]; exact hlt
        have hsz := h.sizes N[k] (List.getElem_mem hkl)
        obtain ⟨b', off, rfl, hb, an, nn, cn, ak, nk, ck, c0, c1, c2, c3, c4, hNm, hK⟩ := (h.below B1 (Nat.le_refl _)).cells k hkl
        have HY := hide (show smallNd N[k] → ∀ j, (hj : j < N.length) → j < k + 1 → smallNd N[j] from fun e j hj h' => by
          by_cases ej : j = k
          · subst ej; exact e
          · exact unhide Ha j hj (by omega))
        have Hlt := hide hlt
        have HKL := hide hK.len
        have hKs : nk ≤ maxLen := Nat.le_trans hK.cap hK.small
        clear Ha hK
        generalize N[k] = x at c0 c1 c2 c3 c4 hNm hsz HY HKL
        go_wp2_with (go_at_call 39; refine (szNode_any x an nn cn ak nk ck _ _ hNm (unhide HKL).symm hKs hsz (by omega) (by omega)).mono ?_; rintro e w2 ⟨⟨r2, rfl, hr2⟩, hb2⟩; have Hr2 := hide hr2; clear hr2)
        · go_ret
          exact ⟨left_no _ _, B1.trans (hb2.mono B1.size)⟩
        · have a1 := unhide Hr2
          have a2 := unhide Hlt
          exact ⟨⟨k + 1, r2, a2, by go_num, rfl, by omega, by omega, B1.trans (hb2.mono B1.size), hide (unhide HY (by rcases a1 with e | e; omega; exact e.2.2))⟩, by simp [intOf]; omega⟩
      · have HX := hide (show n ≤ 1048576 ∧ ∀ x ∈ N, smallNd x from ⟨by omega, fun x hx => by
          obtain ⟨j, hj, rfl⟩ := List.getElem_of_mem hx
          exact unhide Ha j hj (by have := unhide Hl; omega)⟩)
        go_wp2_with fail
        go_ret
        exact ⟨⟨_, rfl, .inr ⟨hr0, hrL, unhide HX⟩⟩, B1⟩

set_option maxHeartbeats 800000 in
theorem szStmt_any (s : St) (L : Int) (w : World) (hs : s.name.size ≤ maxLen) (hL : -1 ≤ L) (hL' : L ≤ 1048576) :
    Calls Tryz.prog 40 #[.agg #[.int .i64 s.kind, .string s.name, .int .i64 s.cond, .int .i64 s.grant], .int .i64 L] w fun e w' => Left L (s.name.size ≤ 1048576) e ∧ Below w.heap.size w w' := by
  have B0 := (Below.refl w.heap.size w).alloc (Nat.le_refl _) (.cells #[.int .i64 s.kind, .string s.name, .int .i64 s.cond, .int .i64 s.grant] 92)
  unfold maxLen at hs
  by_cases h0 : L - s.name.size < 0
  · go_enter Tryz.func40, Tryz.ntmps40
    go_wp2
    go_ret
    exact ⟨left_no _ _, B0⟩
  · have h0' : 0 ≤ L - s.name.size := by omega
    go_enter Tryz.func40, Tryz.ntmps40
    go_wp2
    go_ret
    exact ⟨⟨_, rfl, .inr ⟨by omega, by omega, by omega⟩⟩, B0⟩

set_option maxRecDepth 100000 in
set_option maxHeartbeats 1600000 in
theorem szStmtS_any (a : Option Addr) (n c : Nat) (N : List St) (L : Int) (w : World) (h : StsR w a n c N) (hL : -1 ≤ L) (hL' : L ≤ 1048576) :
    Calls Tryz.prog 14 #[.slice a n c, .int .i64 L] w fun e w' => Left L (n ≤ 1048576 ∧ ∀ x ∈ N, x.name.size ≤ 1048576) e ∧ Below w.heap.size w w' := by
  have hn : n ≤ 9223372036854775807 := by have := h.cap; have := h.small; unfold maxLen at this; omega
  have Hl := hide h.len
  by_cases h0 : L - n < 0
  · go_enter Tryz.func14, Tryz.ntmps14
    go_wp2
    go_ret
    exact ⟨left_no _ _, Below.refl _ _⟩
  · have h0' : 0 ≤ L - n := by omega
    have h0b : (L - n < 0) = False := by simp; omega
    go_enter Tryz.func14, Tryz.ntmps14
    go_wp2_with fail
    go_loopw [1, 4, 5] (fun l _ i wr => ∃ (k : Nat) (r : Int), k ≤ n ∧ i = .int .i64 k ∧ l = .int .i64 r ∧ 0 ≤ r ∧ r ≤ L ∧ Below w.heap.size w wr ∧ Hid (∀ j, (hj : j < N.length) → j < k → N[j].name.size ≤ 1048576)) (fun _ _ i _ => n - (intOf i).toNat)
    case atStart => exact ⟨0, L - n, by omega, rfl, rfl, by omega, by omega, Below.refl _ _, hide (fun j _ h => absurd h (by omega))⟩
    case round =>
      obtain ⟨k, r, hk, rfl, rfl, hr0, hrL, B1, Ha⟩ := hrel
      by_cases hlt : k < n
      · have ilt : (k : Int) < (n : Int) := by omega
        have hkl : k < N.length := by rw [unhide Hl]; exact hlt
        have hsz := h.sizes N[k] (List.getElem_mem hkl)
        obtain ⟨b', off, rfl, hb, c0, c1, c2, c3⟩ := (h.below B1 (Nat.le_refl _)).cells k hkl
        have HY := hide (show N[k].name.size ≤ 1048576 → ∀ j, (hj : j < N.length) → j < k + 1 → N[j].name.size ≤ 1048576 from fun e j hj h' => by
          by_cases ej : j = k
          · subst ej; exact e
          · exact unhide Ha j hj (by omega))
        have Hlt := hide hlt
        clear Ha
        generalize N[k] = x at c0 c1 c2 c3 hsz HY
        go_wp2_with (go_at_call 40; refine (szStmt_any x _ _ hsz (by omega) (by omega)).mono ?_; rintro e w2 ⟨⟨r2, rfl, hr2⟩, hb2⟩; have Hr2 := hide hr2; clear hr2)
        · go_ret
          exact ⟨left_no _ _, B1.trans (hb2.mono B1.size)⟩
        · have a1 := unhide Hr2
          have a2 := unhide Hlt
          exact ⟨⟨k + 1, r2, a2, by go_num, rfl, by omega, by omega, B1.trans (hb2.mono B1.size), hide (unhide HY (by rcases a1 with e | e; omega; exact e.2.2))⟩, by simp [intOf]; omega⟩
      · have HX := hide (show n ≤ 1048576 ∧ ∀ x ∈ N, x.name.size ≤ 1048576 from ⟨by omega, fun x hx => by
          obtain ⟨j, hj, rfl⟩ := List.getElem_of_mem hx
          exact unhide Ha j hj (by have := unhide Hl; omega)⟩)
        go_wp2_with fail
        go_ret
        exact ⟨⟨_, rfl, .inr ⟨hr0, hrL, unhide HX⟩⟩, B1⟩

/-- a policy that the law lets by -/
def smallP (n m : Nat) (N : List Nd) (L : List St) : Prop := (n ≤ 1048576 ∧ ∀ x ∈ N, smallNd x) ∧ m ≤ 1048576 ∧ ∀ x ∈ L, x.name.size ≤ 1048576

end Go.Proofs.YtpbopjgmiaoomaaGreatDoor

namespace Go.Proofs.YtpbopjgmiaoomaaGreatDoor
open Go.RowKit
set_option linter.unusedVariables false

theorem rowT3 {w : World} {b : Nat} {v0 v1 v2 : Value} {t : TypeId} (R : Row w b #[v0, v1, v2] t) : w.cell? ⟨b, 0, none⟩ = some v0 ∧ w.cell? ⟨b, 1, none⟩ = some v1 ∧ w.cell? ⟨b, 2, none⟩ = some v2 := ⟨R.cell 0, R.cell 1, R.cell 2⟩

def smallT (n m p : Nat) (N : List Nd) (L : List St) : Prop := smallP n m N L ∧ p ≤ 1048576

set_option maxHeartbeats 1600000 in
theorem szTyped_any (a b f : Option Addr) (n c m d p g : Nat) (N : List Nd) (L : List St) (T : List Int) (w : World) (h1 : NdsR w a n c N) (h2 : StsR w b m d L) (h3 : IntsR w f p g T) :
    Calls Tryz.prog 4 #[.agg #[.slice a n c, .slice b m d, .slice f p g], .int .i64 1048576] w fun e w' => Left 1048576 (smallT n m p N L) e ∧ Below w.heap.size w w' := by
  have R0 := Row.new w #[.slice a n c, .slice b m d, .slice f p g] 26
  have B0 := (Below.refl w.heap.size w).alloc (Nat.le_refl _) (.cells #[.slice a n c, .slice b m d, .slice f p g] 26)
  have N0 := h1.below B0 (Nat.le_refl _)
  have L0 := h2.below B0 (Nat.le_refl _)
  have hp : p ≤ maxLen := Nat.le_trans h3.cap h3.small
  go_enter Tryz.func4, Tryz.ntmps4
  go_wp2_with (first
    | (go_at_call 13; refine (szNodeS_any _ _ _ _ _ _ N0 (by omega) (by omega)).mono ?_; rintro e w2 ⟨⟨r, rfl, hr⟩, hb2⟩; have hr1 : -1 ≤ r ∧ r ≤ 1048576 := (by rcases hr with h | h <;> omega); have Hr := hide hr; clear hr; obtain ⟨q0, q1, q2⟩ := rowT3 (R0.after hb2 (Nat.le_refl _)); have E2 := B0.trans (hb2.mono B0.size))
    | (go_at_call 14; refine (szStmtS_any _ _ _ _ _ _ (L0.below hb2 (Nat.le_refl _)) (by omega) (by omega)).mono ?_; rintro e w3 ⟨⟨r2, rfl, hr2⟩, hb3⟩; have hr3 : -1 ≤ r2 ∧ r2 ≤ 1048576 := (by rcases hr2 with h | h <;> omega); have Hr2 := hide hr2; clear hr2; obtain ⟨u0, u1, u2⟩ := rowT3 ((R0.after hb2 (Nat.le_refl _)).after hb3 (Nat.le_refl _)); have E3 := E2.trans (hb3.mono E2.size))
    | (go_at_call 15; refine (szIntS_any _ _ _ _ _ hp (by omega) (by omega)).mono ?_; rintro e w4 ⟨⟨r3, rfl, hr4⟩, hw4⟩; rw [hw4]; clear hw4; have Hr3 := hide hr4; clear hr4))
  · go_ret
    exact ⟨left_no _ _, E2⟩
  · go_ret
    exact ⟨left_no _ _, E3⟩
  · go_ret
    exact ⟨left_no _ _, E3⟩
  · go_ret
    have a1 := unhide Hr
    have a2 := unhide Hr2
    have a3 := unhide Hr3
    refine ⟨⟨_, rfl, .inr ⟨by omega, by omega, ⟨?_, ?_⟩, ?_⟩⟩, E3⟩
    · rcases a1 with e | e
      · omega
      · exact e.2.2
    · rcases a2 with e | e
      · omega
      · exact e.2.2
    · rcases a3 with e | e
      · omega
      · exact e.2.2

end Go.Proofs.YtpbopjgmiaoomaaGreatDoor

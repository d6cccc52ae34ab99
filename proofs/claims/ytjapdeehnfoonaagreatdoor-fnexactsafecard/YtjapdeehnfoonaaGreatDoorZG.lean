/-
  The model's types of a tree's nodes. Own work.
-/
import Derived.Test.YtjapdeehnfoonaaGreatDoorMWM
import Derived.Test.YtjapdeehnfoonaaGreatDoorQK
namespace Go.Proofs.YtjapdeehnfoonaaGreatDoor
open Go.RowKit
set_option linter.unusedVariables false

/-- what stands aside of a row that grows -/
theorem Ints.keep {w w' : World} {v v' : Value} {a : Option Addr} {n c : Nat} {L : List Int} (h : Ints w a n c L) (k : Keep w v w' v') (ha : ∀ x, a = some x → some x.block ≠ v.ownBlock) : Ints w' a n c L :=
  ⟨h.len, h.small, fun j hj => by
    obtain ⟨b, off, hb, hl, c0⟩ := h.cells j hj
    exact ⟨b, off, hb, Nat.lt_of_lt_of_le hl k.2.2, (World.cell?_of_block (w := w) (k.1 b hl (ha _ hb))).trans c0⟩⟩

/-- the type of a node -/
def nodeTy (Es : List Ex) (ts : List Int) (i : Nat) : Option Int := (Es[i]?).bind (tyE ts)

def TrAns (B : Nat) (tv : Value) (tt : List Int) (o : Option (List Int)) (w : World) (r : Ending) (w' : World) : Prop :=
  (∃ ys v', o = some ys ∧ r = .returned (.tuple #[v', .agg #[.int .i64 0, .int .i64 0]]) ∧ w'.ownsRow B 3 1 v' (tt ++ ys).length (intsV (tt ++ ys)) ∧ Keep w tv w' v' ∧ Below B w w') ∨
  (o = none ∧ (∃ v' code a, r = .returned (.tuple #[v', .agg #[.int .i64 code, .int .i64 a]]) ∧ (v' = .slice none 0 0 ∨ ∃ x n c, v' = .slice x n c) ∧ code ≠ 0) ∧ Below B w w')

set_option maxRecDepth 100000 in
set_option maxHeartbeats 3200000 in
theorem l3tree_any (a : Option Addr) (n c : Nat) (N : List Nd) (hU : ∀ x ∈ N, fieldsU x = true) (w0 : World) (hN : Nds w0 a n c N) (B : Nat) (hB : w0.heap.size ≤ B) (lb : Nat) (la : Option Addr) (ln lc : Nat) (ts : List Int) (hin : ∀ t ∈ ts, 1 ≤ t ∧ t ≤ 4) (Es : List Ex) (hEl : Es.length = n) (hE : ∀ j, (h : j < Es.length) → IsT N j Es[j])
    (f m : Nat) (hfm : f + m ≤ n) (hf : 1 ≤ f + m) (hn : n ≤ 4000) (tv : Value) (tt : List Int) (htt : tt.length ≤ 4000) (w : World) (hw : Below w0.heap.size w0 w) (hBw : B ≤ w.heap.size) (h2 : w.cell? ⟨lb, 1, none⟩ = some (.slice la ln lc)) (h3 : lb < w.heap.size) (h4 : Ints w la ln lc ts) (h5 : some lb ≠ tv.ownBlock) (h6 : ∀ x, la = some x → some x.block ≠ tv.ownBlock) (O1 : w.ownsRow B 3 1 tv tt.length (intsV tt)) :
    Calls Tryz.prog 46 #[.slice a n c, .int .i64 f, .int .i64 ((f + m : Nat) - 1 : Int), .pointer (some ⟨lb, 0, none⟩), tv] w (TrAns B tv tt (allO ((List.range' f m).map (nodeTy Es ts))) w) := by
  obtain ⟨ii, hii, ez0, ez1, ez2⟩ := info_parts infoI
  obtain ⟨xv, cv, rfl, _⟩ := owns_form2 O1
  have H0 : ∀ k, k < m → ∀ W, Below w0.heap.size w0 W → W.cell? ⟨lb, 1, none⟩ = some (.slice la ln lc) → lb < W.heap.size → Ints W la ln lc ts → Calls Tryz.prog 64 #[.slice a n c, .int .i64 ((f + k : Nat) : Int), .pointer (some ⟨lb, 0, none⟩)] W (NdAns (nodeTy Es ts (f + k)) W) := fun k hk W q1 q2 q3 q4 => by
    have hlt : f + k < Es.length := by omega
    rw [nodeTy, List.getElem?_eq_getElem hlt]
    exact l3node_any a n c N hU lb la ln lc ts hin (hE (f + k) hlt) W (hN.below q1 (Nat.le_refl _)) q2 q3 q4
  have HV := hide H0
  have Hw := hide hw
  obtain ⟨os, hos⟩ : ∃ os, os = (List.range' f m).map (nodeTy Es ts) := ⟨_, rfl⟩
  have HOS := hide (show ∀ k, (h : k < m) → ∃ h2 : k < os.length, os[k] = nodeTy Es ts (f + k) from fun k h => ⟨by rw [hos]; simpa using h, by simp [hos]⟩)
  have HOL := hide (show os.length = m by rw [hos]; simp)
  rw [← hos]
  have R0 := Row.new w #[.int .i64 0, .int .i64 0] 66
  have B0 := (Below.refl w.heap.size w).alloc (Nat.le_refl _) (.cells #[.int .i64 0, .int .i64 0] 66)
  have O0 := O1.alloc (.cells #[.int .i64 0, .int .i64 0] 66)
  have z0 : (w.alloc (.cells #[.int .i64 0, .int .i64 0] 66)).heap.size = w.heap.size + 1 := by simp
  have q0 := (B0.cell (p := ⟨lb, 1, none⟩) h3).trans h2
  have I0 := h4.below B0 (Nat.le_refl _)
  have hlb0 : lb < (w.alloc (.cells #[.int .i64 0, .int .i64 0] 66)).heap.size := by omega
  have hown : some w.heap.size ≠ (Value.slice xv tt.length cv).ownBlock := fun e => by have := (O1.lt _ e.symm).2; omega
  have KP0 : ∀ W v, Keep (w.alloc (.cells #[.int .i64 0, .int .i64 0] 66)) (.slice xv tt.length cv) W v → Keep w (.slice xv tt.length cv) W v := fun W v k =>
    ⟨fun j h1 h2 => (k.1 j (by omega) h2).trans (Below.heap_alloc w _ j h1), fun q hq => by rcases k.2.1 q hq with e | e; exact .inl e; right; omega, by have := k.2.2; omega⟩
  have HKP := hide KP0
  clear hos H0 hE hEl hw hN hU O1 h4 h2 hin KP0
  obtain ⟨tp, htp⟩ : ∃ tp : Int, tp = (f + m : Nat) - 1 := ⟨_, rfl⟩
  rw [← htp]
  have HTP := hide htp
  have HFM := hide (show f + m ≤ 4000 by omega)
  clear htp hfm hf
  go_enter Tryz.func46, Tryz.ntmps46
  go_wp2_with fail
  generalize w.alloc (.cells #[.int .i64 0, .int .i64 0] 66) = W1 at R0 B0 O0 z0 q0 I0 hlb0 HKP ⊢
  have Z0 := hide z0
  clear z0
  go_loopw [4, 12] (fun v i wr => ∃ (j fj : Nat) (K TK : List Int), Hid (j ≤ m ∧ fj = f + j ∧ TK = tt ++ K) ∧ i = .int .i64 fj ∧ wr.ownsRow B 3 1 v TK.length (intsV TK) ∧ Hid (allO (os.take j) = some K) ∧ Below B W1 wr ∧ Keep W1 (.slice xv tt.length cv) wr v) (fun _ i _ => f + m - (intOf i).toNat)
  case atStart => exact ⟨0, f, [], tt, hide ⟨Nat.zero_le _, rfl, by simp⟩, rfl, O0, hide rfl, Below.refl _ _, Keep.refl _ _⟩
  case round =>
    obtain ⟨j, fj, K, TK, HJ, rfl, Q1, HK, D1, KP⟩ := hrel
    have hql : TK.length ≤ 8000 := by have h1 := allO_len (unhide HK); have h2 := unhide HJ; have h3 := unhide HFM; rw [List.length_take] at h1; rw [h2.2.2, List.length_append]; omega
    have E1 : Below w0.heap.size w0 wr := ((unhide Hw).trans (B0.mono (Nat.le_trans hB hBw))).trans (D1.mono hB)
    have zb : B ≤ wr.heap.size := Nat.le_trans (by have := unhide Z0; omega) D1.size
    have R1 : Row wr w.heap.size #[.int .i64 0, .int .i64 0] 66 := ⟨(KP.1 _ R0.lt hown).trans R0.out⟩
    by_cases hjl : j < m
    · have ijl : (fj : Int) ≤ tp := by have := unhide HJ; have := unhide HTP; omega
      have q1 : wr.cell? ⟨lb, 1, none⟩ = some (.slice la ln lc) := (World.cell?_of_block (w := W1) (KP.1 lb hlb0 h5)).trans q0
      have lb1 := Nat.lt_of_lt_of_le hlb0 KP.2.2
      have I1 := I0.keep KP h6
      have HC := hide (unhide HV j hjl wr E1 q1 lb1 I1)
      obtain ⟨hjo, hoj⟩ := unhide HOS j hjl
      have HS := hide (show allO (os.take (j + 1)) = os[j].map (fun t => K ++ [t]) by rw [List.take_succ_eq_append_getElem hjo]; exact allO_snoc _ _ _ (unhide HK))
      have HZ := hide (show os[j] = none → allO os = none from fun e => allO_none os (j + 1) (by rw [unhide HS, e]; rfl))
      rw [hoj] at HS HZ
      have Hjl := hide hjl
      have ij2 : fj ≤ 4000 := by have := unhide HJ; have := unhide HFM; omega
      generalize nodeTy Es ts (f + j) = oj at HC HS HZ hoj
      rw [← (unhide HJ).2.1] at HC
      obtain ⟨yv, dv, rfl, _⟩ := owns_form2 Q1
      clear hjo hjl hoj I1
      go_wp2_with fail
      refine (unhide HC).mono ?_
      rintro r w2 ⟨⟨ty, code, rfl, hr⟩, hb2⟩
      have D2 := D1.trans (hb2.mono zb)
      have Q2 := ownsRow_below Q1 hb2 (Nat.le_refl _)
      have KB : Keep wr (.slice yv TK.length dv) w2 (.slice yv TK.length dv) := ⟨fun k h _ => hb2.block k h, fun q h => .inl h, hb2.size⟩
      have KP2 := KP.trans KB
      have R2 := R1.after hb2 (Nat.le_refl _)
      have zb2 : B ≤ w2.heap.size := Nat.le_trans zb hb2.size
      rcases hr with ⟨rfl, rfl⟩ | ⟨hc, rfl⟩
      · have HS2 := hide (show allO (os.take (j + 1)) = some (K ++ [ty]) from unhide HS)
        clear HS HZ HC
        dsimp only
        go_wp2_with (at_builtin; refine wpList_append_lies _ rfl _ _ 24 rfl B 3 ii (.int .i64 0) 1 8 Tryz.underlying24 hii ez0 ez1 ez2 rfl (by decide) _ _ _ rfl (World.ownsRow.alloc Q2 _) ⟨w2.heap.size, 0, none⟩ 1 1 [.int .i64 ty] rfl rfl ?c1 ?c2 (by decide) ?c3 ?c4 ?c5 (w2.heap.size + 1) (by simp) ?_)
        case c1 => exact one_cell _ _ _ _ (by simp)
        case c2 => intro u hu; simp at hu; subst hu; rfl
        case c3 => unfold maxLen; omega
        case c4 => omega
        case c5 => simp; omega
        intro g cap w3 O3 hgrow hat hgl
        have KP3 := KP2.trans (keep_append (n := TK.length + 1) (c := cap) hgrow hat)
        have D3 := (D2.alloc zb2 (.cells #[.int .i64 ty] 3)).grown hgrow (by simp; omega) (fun q hq => (Q2.lt q hq).1)
        have O4 := owns_snoc O3
        clear hgrow hat O3
        go_wp2_with fail
        go_roundw
        case rel => exact ⟨j + 1, fj + 1, K ++ [ty], TK ++ [ty], hide ⟨unhide Hjl, by have := unhide HJ; omega, by rw [(unhide HJ).2.2, List.append_assoc]⟩, by go_num, O4, HS2, D3, KP3⟩
        case measure => have := unhide Hjl; have := unhide HJ; simp [intOf]; omega
      · have ec : (code != 0) = true := bne_iff_ne.2 hc
        have HX := hide (unhide HZ rfl)
        have Hc := hide hc
        clear hc HS HZ HC
        obtain ⟨p0, p1⟩ := row2 R2
        have f0 := fun j => R2.frozen j
        have R3 := R2.set 0 (.int .i64 code)
        have f1 := fun j => R3.frozen j
        dsimp only
        have R4 := R3.set 1 (.int .i64 fj)
        have s0 : ((w2.setCell ⟨w.heap.size, 0, none⟩ (.int .i64 code)).setCell ⟨w.heap.size, 1, none⟩ (.int .i64 fj)).cell? ⟨w.heap.size, 0, none⟩ = some (.int .i64 code) := R4.cell 0
        have s1 : ((w2.setCell ⟨w.heap.size, 0, none⟩ (.int .i64 code)).setCell ⟨w.heap.size, 1, none⟩ (.int .i64 fj)).cell? ⟨w.heap.size, 1, none⟩ = some (.int .i64 fj) := R4.cell 1
        go_wp2_with fail
        refine bodyPost_ret (v := .tuple #[.slice yv TK.length dv, .agg #[.int .i64 code, .int .i64 fj]]) (by simp [results, Tryz.results46, go_sem, s0, s1]) rfl (.inr ⟨unhide HX, ⟨_, _, _, rfl, .inr ⟨_, _, _, rfl⟩, unhide Hc⟩, ?_⟩)
        exact (((B0.mono hBw).trans D2).setCell (p := ⟨w.heap.size, 0, none⟩) hBw _).setCell (p := ⟨w.heap.size, 1, none⟩) hBw _
    · have e : j = m := by have := unhide HJ; omega
      have ijl : ¬ ((fj : Int) ≤ tp) := by have := unhide HJ; have := unhide HTP; omega
      subst e
      have HA := hide (show allO os = some K by rw [← unhide HK, List.take_of_length_le (by rw [unhide HOL]; exact Nat.le_refl _)])
      obtain ⟨yv, dv, rfl, _⟩ := owns_form2 Q1
      obtain ⟨p0, p1⟩ := row2 R1
      have f0 := fun j => R1.frozen j
      have R3 := R1.set 0 (.int .i64 0)
      have f1 := fun j => R3.frozen j
      have R4 := R3.set 1 (.int .i64 0)
      have s0 : ((wr.setCell ⟨w.heap.size, 0, none⟩ (.int .i64 0)).setCell ⟨w.heap.size, 1, none⟩ (.int .i64 0)).cell? ⟨w.heap.size, 0, none⟩ = some (.int .i64 0) := R4.cell 0
      have s1 : ((wr.setCell ⟨w.heap.size, 0, none⟩ (.int .i64 0)).setCell ⟨w.heap.size, 1, none⟩ (.int .i64 0)).cell? ⟨w.heap.size, 1, none⟩ = some (.int .i64 0) := R4.cell 1
      have KP2 := unhide HKP _ _ KP
      have hno : ∀ q, (Value.slice yv TK.length dv).ownBlock = some q → q ≠ w.heap.size := fun q hq e => by
        subst e
        rcases KP.2.1 _ hq with e2 | e2
        · exact hown e2.symm
        · have := R0.lt; omega
      go_wp2_with fail
      refine bodyPost_ret (v := .tuple #[.slice yv TK.length dv, .agg #[.int .i64 0, .int .i64 0]]) (by simp [results, Tryz.results46, go_sem, s0, s1]) rfl (.inl ⟨K, _, unhide HA, rfl, ?_, ?_, ?_⟩)
      · rw [← (unhide HJ).2.2]
        exact own_set (own_set Q1 _ _ hno) _ _ hno
      · exact ⟨fun k h1 h2 => ((heap_setCell_other _ _ _ _ (by show k ≠ w.heap.size; omega)).trans (heap_setCell_other _ _ _ _ (by show k ≠ w.heap.size; omega))).trans (KP2.1 k h1 h2), KP2.2.1, by have := KP2.2.2; simpa using this⟩
      · exact (((B0.mono hBw).trans D1).setCell (p := ⟨w.heap.size, 0, none⟩) hBw _).setCell (p := ⟨w.heap.size, 1, none⟩) hBw _

end Go.Proofs.YtjapdeehnfoonaaGreatDoor

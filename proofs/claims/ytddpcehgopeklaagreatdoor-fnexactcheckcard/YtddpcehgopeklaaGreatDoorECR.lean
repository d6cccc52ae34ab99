/-
  The program's check. Own work.
-/
import Derived.Test.YtddpcehgopeklaaGreatDoorMXBB
import Derived.Test.YtddpcehgopeklaaGreatDoorMXBQ
namespace Go.Proofs.YtddpcehgopeklaaGreatDoor
open Go.RowKit
set_option linter.unusedVariables false

theorem rb_cnt (D : List Dc) : ∀ (e : Ex), (rbE D e).cnt = e.cnt
  | .name i s => by
    rw [rbE, rsN]
    split
    · split <;> rfl
    · rfl
  | .un _ _ k => by simp [rbE, Ex.cnt, rb_cnt D k]
  | .bin _ _ l r => by simp [rbE, Ex.cnt, rb_cnt D l, rb_cnt D r]
  | .ite _ c t e => by simp [rbE, Ex.cnt, rb_cnt D c, rb_cnt D t, rb_cnt D e]
  | .int .. | .text .. | .bool .. | .set .. | .attr .. | .lett .. => rfl

theorem rb_sok {w : World} (D : List Dc) : ∀ (e : Ex), e.sok w → (rbE D e).sok w
  | .name i s, _ => by
    rw [rbE, rsN]
    split
    · split <;> trivial
    · trivial
  | .un _ _ k, h => rb_sok D k h
  | .bin _ _ l r, h => ⟨rb_sok D l h.1, rb_sok D r h.2⟩
  | .ite _ c t e, h => ⟨rb_sok D c h.1, rb_sok D t h.2.1, rb_sok D e h.2.2⟩
  | .int .., h => h
  | .text .., h => h
  | .bool .., h => h
  | .set .., h => h
  | .attr .., h => h
  | .lett .., h => h

theorem rbO_cnt (D : List Dc) (o : Option Ex) : cntO (rbO D o) = cntO o := by
  cases o with
  | none => rfl
  | some e => exact rb_cnt D e

theorem rbO_sok {w : World} (D : List Dc) (o : Option Ex) (h : sokO w o) : sokO w (rbO D o) := by
  cases o with
  | none => trivial
  | some e => exact rb_sok D e h

theorem rbS_cnt (D : List Dc) : ∀ (S : List Sx), cntX (S.map (rbS D)) = cntX S
  | [] => rfl
  | x :: S => by rw [List.map_cons, cntX_cons, cntX_cons, rbS_cnt D S]; simp [rbS, rbO_cnt]

/-- none or a tree, on both sides -/
def two (v v' : Value) : Prop := (v = .nilIface ∧ v' = .nilIface) ∨ ∃ t u t' u', v = .iface t u ∧ v' = .iface t' u'

theorem two_optX (D : List Dc) (o : Option Ex) : two (optX o) (optX (rbO D o)) := by
  cases o with
  | none => exact .inl ⟨rfl, rfl⟩
  | some e =>
    obtain ⟨t, u, h⟩ := e.form
    obtain ⟨t', u', h'⟩ := (rbE D e).form
    exact .inr ⟨t, u, t', u', h, h'⟩

set_option maxHeartbeats 6400000 in
set_option maxRecDepth 100000 in
theorem check_any (a b : Option Addr) (n c m d : Nat) (N : List Nd) (L : List St) (aX a1 a2 a3 a4 a5 a6 a7 a8 a9 : Addr) (w : World) (h1 : Nds w a n c N) (h2 : Sts w b m d L) (hT : TabOK w) (hV : Vok w a9) (hS : Sn9 w aX a1 a2 a3 a4 a5 a6 a7 a8 a9) (hN : ∀ x ∈ N, x.num ≤ 9223372036854775807) :
    Calls Tryz.prog 23 #[.agg #[.slice a n c, .slice b m d]] w fun r w' => (∃ q, IsCk N L q ∧ CkO aX a9 a7 a8 q w r w') ∧ Below w.heap.size w w' := by
  have HN := hide h1.len
  have HL := hide h2.len
  have HNum := hide hN
  have hmf : ∀ (fn : Fn) (first cap : Array Value) (w : World), (Instr.makeFunc fn first cap).run Tryz.prog w = .ok (.func fn first cap) w := fun _ _ _ _ => rfl
  have RP := (Row.new w #[.slice a n c, .slice b m d] 37).alloc (.cells #[.slice none 0 0, .slice none 0 0, .slice none 0 0] 31)
  have RT := Row.new (w.alloc (.cells #[.slice a n c, .slice b m d] 37)) #[.slice none 0 0, .slice none 0 0, .slice none 0 0] 31
  simp only [World.size_alloc] at RT
  have B1 := ((Below.refl w.heap.size w).alloc (Nat.le_refl _) (.cells #[.slice a n c, .slice b m d] 37)).alloc (by simp) (.cells #[.slice none 0 0, .slice none 0 0, .slice none 0 0] 31)
  have N1 := h1.below B1 (Nat.le_refl _)
  have L1 := h2.below B1 (Nat.le_refl _)
  have T1 := hT.below B1 (Nat.le_refl _)
  have V1 := hV.below B1 (Nat.le_refl _)
  have S1 := hS.below B1 (Nat.le_refl _)
  clear h1 h2 hT hV hS hN
  have W1E : ∃ W1, W1 = (w.alloc (.cells #[.slice a n c, .slice b m d] 37)).alloc (.cells #[.slice none 0 0, .slice none 0 0, .slice none 0 0] 31) := ⟨_, rfl⟩
  go_enter Tryz.func23, Tryz.ntmps23
  go_wp2_with fail
  obtain ⟨W1, hW1⟩ := W1E
  rw [← hW1] at RP RT B1 N1 L1 T1 V1 S1 ⊢
  clear hW1
  refine (iValidPolicy_any _ _ _ _ _ _ N L _ N1 L1 T1).mono ?_
  rintro r w2 ⟨rfl, hb2⟩
  have N2 := N1.below hb2 (Nat.le_refl _)
  have L2 := L1.below hb2 (Nat.le_refl _)
  have V2 := V1.below hb2 (Nat.le_refl _)
  have S2 := S1.below hb2 (Nat.le_refl _)
  have RP2 := RP.after hb2 (Nat.le_refl _)
  have RT2 := RT.after hb2 (Nat.le_refl _)
  have B2 := B1.trans (hb2.mono B1.size)
  clear N1 L1 T1 V1 S1 RP RT B1 hb2
  dsimp only
  cases hw : wellI N L with
  | false =>
    have HW := hide hw
    clear hw
    have gX := S2.gX
    obtain ⟨t0, t1, t2, _⟩ := row3 RT2
    have tf := fun k => RT2.frozen k
    have gbig := S2.big
    have gne : 0 ≠ w.heap.size + 1 := by have := RT2.lt; omega
    have gne2 : w.heap.size + 1 ≠ 0 := by have := RT2.lt; omega
    clear S2
    go_wp2_with fail
    go_region
    all_goals
      go_wp2_with fail
      have R3 := ((RT2.set 0 (.slice none 0 0)).set 1 (.slice none 0 0)).set 2 (.slice none 0 0)
      have B3 := (((B2.setCell (p := ⟨w.heap.size + 1, 0, none⟩) (Nat.le_succ _) (.slice none 0 0)).setCell (p := ⟨w.heap.size + 1, 1, none⟩) (Nat.le_succ _) (.slice none 0 0)).setCell (p := ⟨w.heap.size + 1, 2, none⟩) (Nat.le_succ _) (.slice none 0 0)).drew
      obtain ⟨e0, e1, e2, _⟩ := row3 R3
      exact bodyPost_ret (v := .tuple #[.agg #[.slice none 0 0, .slice none 0 0, .slice none 0 0], .iface 224 (.pointer (some aX))]) (by simp [results, Tryz.results23, go_sem, e0, e1, e2]) rfl ⟨⟨_, .inl ⟨unhide HW, rfl⟩, .inl ⟨rfl, rfl⟩⟩, B3⟩
  | true =>
    have HW := hide hw
    have HP := hide (wellP_of hw)
    clear hw
    obtain ⟨p0, p1⟩ := row2 RP2
    go_wp2_with fail
    have HC := hide (statementsOf_any a b n c m d N L w2 w2 N2 (Below.refl _ _) L2 (fun e => e.fit w2) (makes_written (unhide HP).fields (unhide HNum) (unhide HP).kids) (by rw [← unhide HN]; exact (unhide HP).roots))
    refine (unhide HC).mono ?_
    rintro r w3 ⟨⟨v, Es, rfl, hEl, hE, hf, O3⟩, hb3⟩
    have HEl := hide (show Es.length = N.length by rw [hEl, unhide HN])
    have HE := hide hE
    have HF := hide hf
    have HCN := hide (cntL_leI (unhide HW) (unhide HEl) hE)
    have Hm := hide (show 1 ≤ m ∧ m ≤ 600 by rw [← unhide HL]; exact ⟨(unhide HP).m0, (unhide HP).m⟩)
    clear hEl hE hf HC
    obtain ⟨xv, kv, rfl, hx⟩ := owns_form2 O3
    obtain ⟨g, rfl, hg, hgc⟩ := hx (by have := unhide Hm; omega)
    obtain ⟨cur, R3, hcur⟩ := row_of_owns O3
    have HG := hide hgc
    have V3 := V2.below hb3 (Nat.le_refl _)
    have S3 := S2.below hb3 (Nat.le_refl _)
    have RT3 := RT2.after hb3 (Nat.le_refl _)
    have B3 := B2.trans (hb3.mono B2.size)
    have lt2 := RT2.lt
    clear V2 S2 RP2 RT2 p0 p1 O3 hx hgc N2 L2
    dsimp only
    go_wp2_with fail
    refine (newCheckerX a9 _ V3).mono ?_
    rintro r w4 ⟨cb, mb, rfl, hmb, C4, M4, hb4⟩
    have Q4 : Cx w3.heap.size cb mb attD [] [] (.slice none 0 0) (.slice none 0 0) w4 := ⟨C4, M4, hmb⟩
    have R4 := R3.after hb4 (Nat.le_refl _)
    have RT4 := RT3.after hb4 (Nat.le_refl _)
    have S4 := S3.below hb4 (Nat.le_refl _)
    have B4 := B3.trans (hb4.mono B3.size)
    have z2 := R3.lt
    have g1 : g ≠ cb := by have := C4.low; omega
    have g2 : g ≠ mb := by omega
    have HS := hide (statementsX_any a9 a7 a8 w3.heap.size cb mb (attD, [], []) (.slice none 0 0) (.slice none 0 0) w3 V3 S3.eok (Nat.le_refl _) (sxL Es 0 L) m g kv cur w4 (by rw [sxL_len]; exact unhide HL) attD_wst (by have := unhide Hm; simp; omega) (fun x hx => by obtain ⟨s', _, e1, e2, _, _⟩ := sxL_mem hx; rw [e1, e2]; exact ⟨(okO_of (unhide HF) _).1, (okO_of (unhide HF) _).1⟩) (by rw [cntX_eq]; have := unhide HCN; simp; omega) hb4 Q4 R4 (fun r u hu => by rw [← R4.cell, (hb4.cell (p := ⟨g, r, none⟩) z2)]; exact unhide HG r u (by rw [stC_eq]; exact hu)) g1 g2 (by simp [Value.ownBlock]) (by simp [Value.ownBlock]))
    dsimp only
    go_wp2_with fail
    refine (unhide HS).mono ?_
    rintro r w5 (⟨D, ts, tt, lv, tv, ho, rfl, Q5, K5⟩ | ⟨f, ge, ho, rfl, hee, hb5⟩)
    · have HO := hide ho
      clear ho HS
      obtain ⟨xt, ct, rfl, _⟩ := owns_form2 Q5.C.types
      obtain ⟨R5, q3, q4⟩ := K5.row R4 g1 g2 (by simp [Value.ownBlock]) (by simp [Value.ownBlock])
      have RT5 := RT4.below K5.low (by have := R3.lt; have := hb3.size; omega)
      have D5 := hb4.trans (K5.low)
      have B5 := B3.trans (D5.mono B3.size)
      have hgb : w2.heap.size ≤ g := hg
      have gl5 := R5.lt
      have cl5 := Q5.C.row.lt
      have ml5 := Q5.M.lt
      have HCU := hide (show agree (sxC (mixS D (sxL Es 0 L) 0)) cur from fun r u hu => by
        have e0 : mixS D (sxL Es 0 L) 0 = sxL Es 0 L := by simp [mixS]
        rw [e0] at hu
        rw [← R3.cell]
        exact unhide HG r u (by rw [stC_eq]; exact hu))
      have HSL := hide (show (sxL Es 0 L).length = m by rw [sxL_len]; exact unhide HL)
      have hms : m ≤ 600 := (unhide Hm).2
      have HSK := hide (show ∀ x ∈ sxL Es 0 L, sokO w2 x.cond ∧ sokO w2 x.grant from fun x hx => by obtain ⟨s', _, e1, e2, _, _⟩ := sxL_mem hx; rw [e1, e2]; exact ⟨(okO_of (unhide HF) _).2, (okO_of (unhide HF) _).2⟩)
      have HCX := hide (show cntX (sxL Es 0 L) ≤ 4000 by rw [cntX_eq]; exact unhide HCN)
      have HR := hide (show ckP Es L = .ok (numN 0 ((sxL Es 0 L).map (rbS D)), numT 0 ((sxL Es 0 L).map (rbS D)), tt) by rw [ckP, unhide HO])
      generalize sxL Es 0 L = S at HO HCU HSL HSK HCX HR
      dsimp only
      go_wp2_with fail
      go_loopw [26] (fun i wr => ∃ (k : Nat) (cu : Array Value), k ≤ m ∧ i = .int .i64 k ∧ Hid (agree (sxC (mixS D S k)) cu) ∧ Row wr g cu 90 ∧ Below w2.heap.size w5 wr ∧ Hid (∀ q, q < w5.heap.size → q ≠ g → wr.heap[q]? = w5.heap[q]?)) (fun i _ => m - (intOf i).toNat)
      case atStart => exact ⟨0, cur, by omega, rfl, HCU, R5, Below.refl _ _, hide fun _ _ _ => rfl⟩
      case round =>
        obtain ⟨k, cu, hk, rfl, HA, RW, BW, HK⟩ := hrel
        by_cases hlt : k < m
        · have ilt : (k : Int) < (m : Int) := by omega
          have hkl : k < S.length := by rw [unhide HSL]; exact hlt
          have at5 : ∀ r, r < 5 → ∀ u, (sxV S[k])[r]? = some u → wr.cell? ⟨g, k * 5 + r, none⟩ = some u := fun r hr u hu => by
            rw [RW.cell]
            refine unhide HA _ _ ?_
            have hkm : k < (mixS D S k).length := by rw [mixS_len]; exact hkl
            rw [sxC_at _ k hkm r hr]
            have e := mixS_at D S k hkl
            rw [List.getElem?_eq_getElem hkm] at e
            rw [Option.some.inj e]
            exact hu
          have c0 := at5 0 (by decide) _ rfl
          have c1 := at5 1 (by decide) _ rfl
          have c2 := at5 2 (by decide) _ rfl
          have c3 := at5 3 (by decide) _ rfl
          have c4 := at5 4 (by decide) _ rfl
          simp only [Nat.add_zero] at c0
          have HNX := hide (agree_succ (unhide HA) hkl)
          have Hlt := hide hlt
          have zw := BW.size
          have BWm : w2.heap.size ≤ wr.heap.size := by have := hb3.size; have := D5.size; omega
          have RCw : Row wr cb #[.map (some mb), lv, .slice xt tt.length ct] 96 := ⟨(unhide HK cb cl5 g1.symm).trans Q5.C.row.out⟩
          have MW : MapD wr mb D := Q5.M.keep (unhide HK mb ml5 g2.symm)
          have HC := hide (fun W (hW : Below wr.heap.size wr W) => rebuilt_any cb mb D W ((RCw.after hW (Nat.le_refl _)).cell 0) (RCw.after hW (Nat.le_refl _)).lt (MW.below hW) S[k] W (Below.refl _ _))
          have t3 := two_optX D S[k].cond
          have t4 := two_optX D S[k].grant
          clear at5 hlt
          generalize S[k] = x at c0 c1 c2 c3 c4 HNX HC t3 t4
          generalize optX (rbO D x.cond) = o3' at HNX HC t3
          generalize optX (rbO D x.grant) = o4' at HNX HC t4
          generalize optX x.cond = o3 at c3 HC t3
          generalize optX x.grant = o4 at c4 HC t4
          generalize x.kind = kd at c1 HC HNX
          generalize x.name = nm at c2 HC HNX
          generalize x.at' = aj at c0 HC HNX
          rcases t3 with ⟨rfl, rfl⟩ | ⟨t3, u3, t3', u3', rfl, rfl⟩ <;> rcases t4 with ⟨rfl, rfl⟩ | ⟨t4, u4, t4', u4', rfl, rfl⟩
          all_goals
            go_wp2_with fail
            refine (unhide HC _ ((Below.refl _ _).alloc (Nat.le_refl _) _)).mono ?_
            rintro r w6 ⟨rfl, hb6⟩
            have KW : Below wr.heap.size wr w6 := ((Below.refl _ _).alloc (Nat.le_refl _) _).trans (hb6.mono (by simp))
            have RW6 := RW.after KW (Nat.le_refl _)
            have d0 := (KW.cell (p := ⟨g, k * 5, none⟩) RW.lt).trans c0
            have d1 := (KW.cell (p := ⟨g, k * 5 + 1, none⟩) RW.lt).trans c1
            have d2 := (KW.cell (p := ⟨g, k * 5 + 2, none⟩) RW.lt).trans c2
            have d3 := (KW.cell (p := ⟨g, k * 5 + 3, none⟩) RW.lt).trans c3
            have d4 := (KW.cell (p := ⟨g, k * 5 + 4, none⟩) RW.lt).trans c4
            have df := fun j => RW6.frozen j
            have z6 := KW.size
            have HKW := hide KW
            clear hb6 KW c0 c1 c2 c3 c4
            dsimp only
            go_wp2_with fail
            go_roundw
            case rel => exact ⟨k + 1, _, unhide Hlt, by go_num, HNX, ((((RW6.set _ _).set _ _).set _ _).set _ _).set _ _, (((((BW.trans ((unhide HKW).mono BWm)).setCell (p := ⟨g, k * 5, none⟩) hgb _).setCell (p := ⟨g, k * 5 + 1, none⟩) hgb _).setCell (p := ⟨g, k * 5 + 2, none⟩) hgb _).setCell (p := ⟨g, k * 5 + 3, none⟩) hgb _).setCell (p := ⟨g, k * 5 + 4, none⟩) hgb _, hide (fun q h1 h2 => by rw [heap_setCell_other _ _ q _ h2, heap_setCell_other _ _ q _ h2, heap_setCell_other _ _ q _ h2, heap_setCell_other _ _ q _ h2, heap_setCell_other _ _ q _ h2, (unhide HKW).block q (by omega)]; exact unhide HK q h1 h2)⟩
            case measure => have := unhide Hlt; simp [intOf]; omega
        · have e : k = m := by omega
          subst e
          have RCw : Row wr cb #[.map (some mb), lv, .slice xt tt.length ct] 96 := ⟨(unhide HK cb cl5 g1.symm).trans Q5.C.row.out⟩
          have k2 : wr.cell? ⟨cb, 2, none⟩ = some (.slice xt tt.length ct) := RCw.cell 2
          have HAM := hide (show agree (sxC (S.map (rbS D))) cu from by
            have e0 : mixS D S k = S.map (rbS D) := by rw [mixS, ← unhide HSL, List.take_length, List.drop_length, List.append_nil]
            rw [← e0]; exact unhide HA)
          have D2 : Below w2.heap.size w2 wr := (hb3.trans (D5.mono hb3.size)).trans BW
          have HTD := hide (typedOf_any (S.map (rbS D)) g k kv cu xt tt.length ct wr (by rw [List.length_map]; exact unhide HSL) RW (unhide HAM) (fun y hy => by
            obtain ⟨x, hx, rfl⟩ := List.mem_map.1 hy
            have := unhide HSK x hx
            exact ⟨rbO_sok D _ (sokO_below D2 (Nat.le_refl _) _ this.1), rbO_sok D _ (sokO_below D2 (Nat.le_refl _) _ this.2)⟩) (by rw [rbS_cnt]; have := unhide HCX; omega) (by omega))
          go_wp2_with fail
          refine (unhide HTD).mono ?_
          rintro r w7 ⟨⟨nd, pl, nv, kw, sv, rfl, ON, OS, _⟩, hb7⟩
          clear HTD HAM
          generalize S.map (rbS D) = S2 at ON OS HR
          obtain ⟨xn, cn, rfl, _⟩ := owns_form2 ON.own
          obtain ⟨xs, cs, rfl, _⟩ := owns_form2 OS
          have hlow : w.heap.size + 1 < w2.heap.size := lt2
          have zw := BW.size
          have z5 := D5.size
          have z3 := hb3.size
          have z7 := hb7.size
          have RTw : Row wr (w.heap.size + 1) #[.slice none 0 0, .slice none 0 0, .slice none 0 0] 31 := ⟨(unhide HK (w.heap.size + 1) RT5.lt (by omega)).trans RT5.out⟩
          have RT7 := RTw.after hb7 (Nat.le_refl _)
          have B7 : Below w.heap.size w w7 := (B2.trans (D2.mono B2.size)).trans (hb7.mono (Nat.le_trans B2.size D2.size))
          have OT : wr.ownsRow w3.heap.size 3 1 (.slice xt tt.length ct) tt.length (intsV tt) := owns_blocks2 Q5.C.types (fun q hq => unhide HK q (Q5.C.types.lt q hq).2 (fun e => q4 (by rw [← e]; exact hq)))
          have OT7 := owns_blocks2 OT (fun q hq => hb7.block q (OT.lt q hq).2)
          have kp : ∀ q, w2.heap.size ≤ q → ∀ (v0 v1 v2 : Value), (((w7.setCell ⟨w.heap.size + 1, 0, none⟩ v0).setCell ⟨w.heap.size + 1, 1, none⟩ v1).setCell ⟨w.heap.size + 1, 2, none⟩ v2).heap[q]? = w7.heap[q]? := fun q h1 v0 v1 v2 => by
            have hq : q ≠ w.heap.size + 1 := by omega
            rw [heap_setCell_other _ _ q _ hq, heap_setCell_other _ _ q _ hq, heap_setCell_other _ _ q _ hq]
          have RF := ((RT7.set 0 (.slice xn (numN 0 S2).length cn)).set 1 (.slice xs S2.length cs)).set 2 (.slice xt tt.length ct)
          have BF := ((B7.setCell (p := ⟨w.heap.size + 1, 0, none⟩) (Nat.le_succ _) (.slice xn (numN 0 S2).length cn)).setCell (p := ⟨w.heap.size + 1, 1, none⟩) (Nat.le_succ _) (.slice xs S2.length cs)).setCell (p := ⟨w.heap.size + 1, 2, none⟩) (Nat.le_succ _) (.slice xt tt.length ct)
          have HOW := hide (show OwnTy (((w7.setCell ⟨w.heap.size + 1, 0, none⟩ (.slice xn (numN 0 S2).length cn)).setCell ⟨w.heap.size + 1, 1, none⟩ (.slice xs S2.length cs)).setCell ⟨w.heap.size + 1, 2, none⟩ (.slice xt tt.length ct)) w.heap.size (((w7.setCell ⟨w.heap.size + 1, 0, none⟩ (.slice xn (numN 0 S2).length cn)).setCell ⟨w.heap.size + 1, 1, none⟩ (.slice xs S2.length cs)).setCell ⟨w.heap.size + 1, 2, none⟩ (.slice xt tt.length ct)).heap.size xn (numN 0 S2).length cn xs S2.length cs xt tt.length ct (numN 0 S2) nv kw (numT 0 S2) tt from by
            have ON8 := ON.blocks (w' := ((w7.setCell ⟨w.heap.size + 1, 0, none⟩ (.slice xn (numN 0 S2).length cn)).setCell ⟨w.heap.size + 1, 1, none⟩ (.slice xs S2.length cs)).setCell ⟨w.heap.size + 1, 2, none⟩ (.slice xt tt.length ct)) (fun q h1 h2 => kp q (by omega) _ _ _)
            have OS8 := owns_blocks2 (w' := ((w7.setCell ⟨w.heap.size + 1, 0, none⟩ (.slice xn (numN 0 S2).length cn)).setCell ⟨w.heap.size + 1, 1, none⟩ (.slice xs S2.length cs)).setCell ⟨w.heap.size + 1, 2, none⟩ (.slice xt tt.length ct)) OS (fun q hq => kp q (by have := (OS.lt q hq).1; omega) _ _ _)
            have OT8 := owns_blocks2 (w' := ((w7.setCell ⟨w.heap.size + 1, 0, none⟩ (.slice xn (numN 0 S2).length cn)).setCell ⟨w.heap.size + 1, 1, none⟩ (.slice xs S2.length cs)).setCell ⟨w.heap.size + 1, 2, none⟩ (.slice xt tt.length ct)) OT7 (fun q hq => kp q (by have := (OT7.lt q hq).1; omega) _ _ _)
            exact ⟨ON8.low (by omega), owns_lowO OS8 (by omega), owns_lowO OT8 (by omega), fun q hq j hj e => by
              have h1 := (OT.lt q hq).2
              have h2 := (ON.lts.2.2 j hj q e).1
              omega, ⟨fun q hq => (ON8.lts.1 q hq).2, fun j hj q hq => (ON8.lts.2.1 j hj q hq).2, fun j hj q hq => (ON8.lts.2.2 j hj q hq).2⟩, fun q hq => (OS8.lt q hq).2, fun q hq => (OT8.lt q hq).2, Nat.le_refl _, rfl, numT_len _ _, rfl⟩)
          obtain ⟨t0, t1, t2, _⟩ := row3 RT7
          have tf := fun k => RT7.frozen k
          clear ON OS OT OT7 kp RTw
          dsimp only
          go_wp2_with fail
          obtain ⟨e0, e1, e2, _⟩ := row3 RF
          exact bodyPost_ret (v := .tuple #[.agg #[.slice xn (numN 0 S2).length cn, .slice xs S2.length cs, .slice xt tt.length ct], .nilIface]) (by simp [results, Tryz.results23, go_sem, e0, e1, e2]) rfl ⟨⟨_, .inr ⟨unhide HW, Es, unhide HEl, unhide HE, rfl⟩, .inr (.inr ⟨_, _, _, _, _, _, _, _, _, _, _, _, _, _, unhide HR, rfl, unhide HOW⟩)⟩, BF⟩
    · have HO := hide ho
      clear ho HS
      have RT5 := RT4.below hb5 (by have := hb3.size; omega)
      have B5 := B3.trans ((hb4.trans hb5).mono B3.size)
      have hne : ge ≠ w.heap.size + 1 := fun e => by
        have h1 := hee.out
        rw [e, RT5.out] at h1
        simp at h1
      obtain ⟨t0, t1, t2, _⟩ := row3 RT5
      have tf := fun k => RT5.frozen k
      dsimp only
      have HC7 := hide (allX_code (unhide HO))
      go_wp2_with fail
      have RF := ((RT5.set 0 (.slice none 0 0)).set 1 (.slice none 0 0)).set 2 (.slice none 0 0)
      have BF := ((B5.setCell (p := ⟨w.heap.size + 1, 0, none⟩) (Nat.le_succ _) (.slice none 0 0)).setCell (p := ⟨w.heap.size + 1, 1, none⟩) (Nat.le_succ _) (.slice none 0 0)).setCell (p := ⟨w.heap.size + 1, 2, none⟩) (Nat.le_succ _) (.slice none 0 0)
      have EF : ErO a9 a7 a8 f ge _ := ((Row.setFar hee (p := ⟨w.heap.size + 1, 0, none⟩) hne (.slice none 0 0)).setFar (p := ⟨w.heap.size + 1, 1, none⟩) hne (.slice none 0 0)).setFar (p := ⟨w.heap.size + 1, 2, none⟩) hne (.slice none 0 0)
      obtain ⟨e0, e1, e2, _⟩ := row3 RF
      exact bodyPost_ret (v := .tuple #[.agg #[.slice none 0 0, .slice none 0 0, .slice none 0 0], .iface 97 (.pointer (some ⟨ge, 0, none⟩))]) (by simp [results, Tryz.results23, go_sem, e0, e1, e2]) rfl ⟨⟨.error f, .inr ⟨unhide HW, Es, unhide HEl, unhide HE, by rw [ckP, unhide HO]⟩, .inr (.inl ⟨f, ge, rfl, unhide HC7, rfl, EF⟩)⟩, BF⟩

end Go.Proofs.YtddpcehgopeklaaGreatDoor

/-
  The model's checker. Own work.
-/
import Derived.Test.YtpbopjgmiaoomaaGreatDoorZK
import Derived.Test.YtpbopjgmiaoomaaGreatDoorMXAO
namespace Go.Proofs.YtpbopjgmiaoomaaGreatDoor
open Go.RowKit
set_option linter.unusedVariables false

theorem ckE_let {nm : ByteArray} {st : CkS} {t : Int} {ys : List Int} (h : nm ∉ st.1) : ckE 1 nm st (some t) ys = some (st.1 ++ [nm], st.2.1 ++ [t], st.2.2 ++ ys) := by
  unfold ckE
  rw [if_pos rfl]
  exact if_neg h

theorem ckE_again {nm : ByteArray} {st : CkS} {t : Int} {ys : List Int} (h : nm ∈ st.1) : ckE 1 nm st (some t) ys = none := by
  unfold ckE
  rw [if_pos rfl]
  exact if_pos h

theorem ckE_when {kd : Int} {nm : ByteArray} {st : CkS} {ys : List Int} (hk : kd ≠ 1) : ckE kd nm st (some 1) ys = some (st.1, st.2.1, st.2.2 ++ ys) := by
  unfold ckE
  rw [if_neg hk]
  exact if_pos rfl

theorem ckE_wrong {kd : Int} {nm : ByteArray} {st : CkS} {t : Int} {ys : List Int} (hk : kd ≠ 1) (ht : t ≠ 1) : ckE kd nm st (some t) ys = none := by
  unfold ckE
  rw [if_neg hk]
  exact if_neg ht

theorem Lm.read {B lb : Nat} {ns : List ByteArray} {ts tt : List Int} {nv lv : Value} {xt : Option Addr} {k ct : Nat} {w : World} (h : Lm B lb ns ts tt nv lv (.slice xt k ct) w) {i : Nat} {t : Int} (ht : tt[i]? = some t) : ∃ g, xt = some ⟨g, 0, none⟩ ∧ w.cell? ⟨g, i, none⟩ = some (.int .i64 t) ∧ (i : Int) < k := by
  have hi := (List.getElem?_eq_some_iff.1 ht).1
  obtain ⟨x, c, e, hx⟩ := owns_form2 h.types
  cases e
  obtain ⟨g, hg, _, hc⟩ := hx (by omega)
  exact ⟨g, hg, hc i _ (by rw [intsV, List.getElem?_map, ht]; rfl), by omega⟩

theorem Lm.nmsAt {B lb : Nat} {ns : List ByteArray} {ts tt : List Int} {x : Option Addr} {n c : Nat} {lv tv : Value} {w : World} (h : Lm B lb ns ts tt (.slice x n c) lv tv w) : Nms w x ns ∧ w.cell? ⟨lb, 0, none⟩ = some (.slice x n c) := by
  obtain ⟨y, c', e, hx⟩ := owns_form2 h.names
  cases e
  refine ⟨fun j hj => ?_, h.row.cell 0⟩
  obtain ⟨g, hg, _, hc⟩ := hx (by omega)
  have hl := (h.names.lt g (by rw [hg]; rfl)).2
  exact ⟨g, 0, hg, hl, by rw [Nat.zero_add]; exact hc j _ (by rw [List.getElem?_map, List.getElem?_eq_getElem hj]; rfl)⟩

theorem Ls.size {B rb lb fb sb : Nat} {ns : List ByteArray} {ts tt : List Int} {nv lv tv : Value} {S : Array Value} {fc fa : Int} {w0 w : World} (h : Ls B rb lb fb sb ns ts tt nv lv tv S fc fa w0 w) : B ≤ w.heap.size := by have := h.S.lt; have := h.ord; omega

def CkAns (o : Option CkS) (w : World) (r : Ending) (w' : World) : Prop :=
  (∃ (B lb : Nat) (ns : List ByteArray) (ts tt : List Int) (nv lv tv : Value), o = some (attN ++ ns, ts, tt) ∧ r = .returned (.tuple #[tv, .pointer (some ⟨lb, 0, none⟩), .agg #[.int .i64 0, .int .i64 0]]) ∧ Lm B lb ns ts tt nv lv tv w' ∧ w.heap.size ≤ lb ∧ Below w.heap.size w w') ∨
  (o = none ∧ (∃ code a, r = .returned (.tuple #[.slice none 0 0, .pointer none, .agg #[.int .i64 code, .int .i64 a]]) ∧ code ≠ 0) ∧ Below w.heap.size w w')

set_option maxRecDepth 100000 in
set_option maxHeartbeats 6400000 in
theorem l3check_any (a b : Option Addr) (n c m d : Nat) (N : List Nd) (L : List St) (hU : ∀ x ∈ N, fieldsU x = true) (w0 : World) (hN : Nds w0 a n c N) (hL : Sts w0 b m d L) (Es : List Ex) (hEl : Es.length = n) (hE : ∀ j, (h : j < Es.length) → IsT N j Es[j]) (hn : n ≤ 4000) (hm : m ≤ 600) (hsp : spansOf Es L) (hcn : cntL Es L ≤ 4000) :
    Calls Tryz.prog 42 #[.slice a n c, .slice b m d] w0 (CkAns (ckAll Es (attN, [], []) L) w0) := by
  obtain ⟨ii, hii, ez0, ez1, ez2⟩ := info_parts infoI
  obtain ⟨si, hsi, sz0, sz1, sz2⟩ := info_parts infoS
  have HT := hide (fun (lb : Nat) (ns : List ByteArray) (ts tt : List Int) (nv lv tv : Value) => tree_any a n c N hU w0 hN (w0.heap.size + 3) (by omega) Es hEl hE hn lb ns ts tt nv lv tv)
  have HSP := hide hsp
  have HCN := hide hcn
  have HL := hide hL.len
  have R0 := ((Row.new w0 #[.int .i64 0, .int .i64 0] 96).alloc (.cells #[.slice none 0 0, .slice none 0 0] 134)).alloc (.cells #[.int .i64 0, .int .i64 0] 96)
  have L0 := (Row.new (w0.alloc (.cells #[.int .i64 0, .int .i64 0] 96)) #[.slice none 0 0, .slice none 0 0] 134).alloc (.cells #[.int .i64 0, .int .i64 0] 96)
  have F0 := Row.new ((w0.alloc (.cells #[.int .i64 0, .int .i64 0] 96)).alloc (.cells #[.slice none 0 0, .slice none 0 0] 134)) #[.int .i64 0, .int .i64 0] 96
  have B0 := ((((Below.refl w0.heap.size w0).alloc (Nat.le_refl _) (.cells #[.int .i64 0, .int .i64 0] 96)).alloc (by simp) (.cells #[.slice none 0 0, .slice none 0 0] 134)).alloc (by simp; omega) (.cells #[.int .i64 0, .int .i64 0] 96))
  have z0 : (((w0.alloc (.cells #[.int .i64 0, .int .i64 0] 96)).alloc (.cells #[.slice none 0 0, .slice none 0 0] 134)).alloc (.cells #[.int .i64 0, .int .i64 0] 96)).heap.size = w0.heap.size + 3 := by simp
  simp only [World.size_alloc] at L0 F0
  clear hU hN hE hEl hsp hcn
  go_enter Tryz.func42, Tryz.ntmps42
  go_wp2_with fail
  generalize (((w0.alloc (.cells #[.int .i64 0, .int .i64 0] 96)).alloc (.cells #[.slice none 0 0, .slice none 0 0] 134)).alloc (.cells #[.int .i64 0, .int .i64 0] 96)) = W1 at R0 L0 F0 B0 z0 ⊢
  have ORD : w0.heap.size < w0.heap.size + 1 ∧ w0.heap.size + 1 < w0.heap.size + 1 + 1 ∧ w0.heap.size + 1 + 1 < w0.heap.size + 3 := by omega
  have M0 : Lm (w0.heap.size + 3) (w0.heap.size + 1) [] [] [] (.slice none 0 0) (.slice none 0 0) (.slice none 0 0) W1 := ⟨L0, World.ownsRow_nil _ _ _ _, World.ownsRow_nil _ _ _ _, World.ownsRow_nil _ _ _ _, by omega, fun q h => (by cases h)⟩
  clear L0
  generalize hlb : w0.heap.size + 1 = lb at ORD M0 F0 ⊢
  generalize hfb : lb + 1 = fb at ORD F0 ⊢
  generalize hBB : w0.heap.size + 3 = B at ORD M0 HT z0 ⊢
  generalize hrb : w0.heap.size = rb at ORD R0 B0 ⊢
  have HRB := hide hrb
  have HZB := hide (show rb ≤ lb ∧ w0.heap.size ≤ B by omega)
  clear hlb hfb hBB hrb
  go_loopw [8, 17] (fun v i wr => ∃ (k : Nat) (ns : List ByteArray) (ts tt : List Int) (nv lv : Value) (fc fa : Int), k ≤ m ∧ i = .int .i64 k ∧ Hid (ckAll Es (attN, [], []) (L.take k) = some (attN ++ ns, ts, tt) ∧ ns.length = ts.length) ∧ Lm B lb ns ts tt nv lv v wr ∧ Row wr fb #[.int .i64 fc, .int .i64 fa] 96 ∧ Row wr rb #[.int .i64 0, .int .i64 0] 96 ∧ Below rb w0 wr ∧ B ≤ wr.heap.size) (fun _ i _ => m - (intOf i).toNat)
  case atStart => exact ⟨0, [], [], [], _, _, 0, 0, Nat.zero_le _, rfl, hide ⟨by rw [List.append_nil]; rfl, rfl⟩, M0, F0, R0, B0, by omega⟩
  case round =>
    obtain ⟨k, ns, ts, tt, nv, lv, fc, fa, hk, rfl, HA, M1, F1, R1, D1, hBr⟩ := hrel
    obtain ⟨xv, cv, rfl, _⟩ := owns_form2 M1.types
    by_cases hlt : k < m

    · have ilt : (k : Int) < (m : Int) := by omega
      have hkl : k < L.length := by rw [unhide HL]; exact hlt
      have hrb := unhide HRB
      obtain ⟨bs, os, rfl, hbl, c0', c1', c2', c3'⟩ := hL.cells k hkl
      have c0 := (D1.cell (p := ⟨bs, os + k * 4, none⟩) (by show bs < rb; omega)).trans c0'
      have c1 := (D1.cell (p := ⟨bs, os + k * 4 + 1, none⟩) (by show bs < rb; omega)).trans c1'
      have c2 := (D1.cell (p := ⟨bs, os + k * 4 + 2, none⟩) (by show bs < rb; omega)).trans c2'
      have c3 := (D1.cell (p := ⟨bs, os + k * 4 + 3, none⟩) (by show bs < rb; omega)).trans c3'
      have hsz := hL.sizes _ (List.getElem_mem hkl)
      clear c0' c1' c2' c3' hbl
      obtain ⟨l1, l2, l3⟩ := ckAll_len (unhide HA).1
      have room := cntL_room Es L k hkl
      have hin : ∀ t ∈ ts, 1 ≤ t ∧ t ≤ 4 := l3 (fun t h => by cases h)
      have l1' : tt.length = cntL Es (L.take k) := by simpa using l1
      have l2' : ts.length ≤ k := by rw [List.length_take] at l2; simp at l2; omega
      obtain ⟨sp1, sp2⟩ := unhide HSP k hkl
      rw [← l1'] at sp1 sp2 room
      have HS := hide (show ∀ st2, ckStep Es (attN ++ ns, ts, tt) L[k] = some st2 → ckAll Es (attN, [], []) (L.take (k + 1)) = some st2 from fun st2 e => by rw [List.take_succ_eq_append_getElem hkl, ckAll_snoc, (unhide HA).1]; exact e)
      have HF := hide (show ckStep Es (attN ++ ns, ts, tt) L[k] = none → ckAll Es (attN, [], []) L = none from fun e => ckAll_none Es L _ (k + 1) (by rw [List.take_succ_eq_append_getElem hkl, ckAll_snoc, (unhide HA).1]; exact e))
      have Hlt := hide hlt
      have Hns := hide (unhide HA).2
      have hcnt := unhide HCN
      have HRM := hide (show tt.length + (cntP Es L[k].cond + cntP Es L[k].grant) ≤ 4000 by omega)
      have HTS := hide (show ts.length ≤ 600 by omega)
      have HIN := hide hin
      clear l1 l2 l3 l1' l2' room hin hcnt HA hlt hrb
      generalize L[k] = s at c0 c1 c2 c3 hsz sp1 sp2 HS HF HRM
      clear hkl
      obtain ⟨kd, nm, cd, gr⟩ := s
      dsimp only at c0 c1 c2 c3 hsz sp1 sp2 HRM
      have Z0 : Ls B rb lb fb wr.heap.size ns ts tt nv lv (.slice xv tt.length cv) #[.int .i64 kd, .string nm, .int .i64 cd, .int .i64 gr] fc fa w0 (wr.alloc (.cells #[.int .i64 kd, .string nm, .int .i64 cd, .int .i64 gr] 49)) := ⟨M1.below ((Below.refl _ _).alloc (Nat.le_refl _) _), F1.alloc _, R1.alloc _, Row.new wr _ _, D1.alloc (by omega) _, ⟨ORD.1, ORD.2.1, ORD.2.2, hBr⟩⟩
      have hsb : B ≤ wr.heap.size := hBr
      clear M1 F1 R1 D1
      obtain ⟨z0, z1, z2, z3, zf⟩ := row4' Z0.S

      rcases sp1 with hc | ⟨mm, e, hc, he, hp, hsn⟩
      · subst hc
        have HCD := hide (show ckCond Es (attN ++ ns, ts, tt) ⟨kd, nm, -1, gr⟩ = some (attN ++ ns, ts, tt) from if_pos rfl)
        have HNS := Hns
        have HTR := hide (show tt.length + cntP Es gr ≤ 4000 by have := unhide HRM; omega)
        have HINN := HIN
        have HTSN := hide (show ts.length ≤ 601 by have := unhide HTS; omega)
        rw [show cntP Es (-1) = 0 from rfl, Nat.add_zero] at sp2
        obtain ⟨cd, hcd⟩ : ∃ cd : Int, cd = -1 := ⟨_, rfl⟩
        rcases sp2 with hg | ⟨mm3, e3, hg, he3, hp3, hs3⟩
        · subst hg
          have HNN : (ns).length = (ts).length := unhide HNS
          go_wp2_with fail
          go_roundw
          case rel => exact ⟨k + 1, ns, ts, tt, nv, lv, _, _, unhide Hlt, by go_num, hide ⟨unhide HS _ (by rw [ckStep, unhide HCD, Option.bind_some]; rfl), HNN⟩, Z0.M, Z0.F, Z0.R, Z0.low, Z0.size⟩
          case measure => have := unhide Hlt; simp [intOf]; omega
        · subst hg
          have HC3 := hide (unhide HT lb ns ts tt nv lv (.slice xv tt.length cv) (unhide HINN) (by have := unhide HTSN; omega) (by have := unhide HRM; have := unhide HTR; omega) mm3 e3 he3 hp3 hs3)
          have HGN := hide (show tyE ts e3 = none → ckGrant Es (attN ++ ns, ts, tt) ⟨kd, nm, -1, mm3⟩ = none from fun h => by rw [ckGrant, if_neg (by show ¬ (mm3 : Int) = -1; omega)]; show (match Es[(mm3 : Int).toNat]? with | some e => _ | none => _) = _; rw [Int.toNat_natCast, he3]; show ckG _ (tyE ts e3) _ = _; rw [h]; rfl)
          have HG0 := hide (show ∀ t, tyE ts e3 = some t → t ≠ 4 → ckGrant Es (attN ++ ns, ts, tt) ⟨kd, nm, -1, mm3⟩ = none from fun t h h4 => by rw [ckGrant, if_neg (by show ¬ (mm3 : Int) = -1; omega)]; show (match Es[(mm3 : Int).toNat]? with | some e => _ | none => _) = _; rw [Int.toNat_natCast, he3]; show ckG _ (tyE ts e3) _ = _; rw [h]; exact if_neg h4)
          have HG1 := hide (show tyE ts e3 = some 4 → ckGrant Es (attN ++ ns, ts, tt) ⟨kd, nm, -1, mm3⟩ = some (attN ++ ns, ts, tt ++ tysE ts e3) from fun h => by rw [ckGrant, if_neg (by show ¬ (mm3 : Int) = -1; omega)]; show (match Es[(mm3 : Int).toNat]? with | some e => _ | none => _) = _; rw [Int.toNat_natCast, he3]; show ckG _ (tyE ts e3) _ = _; rw [h]; rfl)
          have ig3 : (0 : Int) ≤ (mm3 : Int) := by omega
          have im3 : mm3 ≤ 4000 := by have := unhide HRM; have := unhide HTR; have := cntP_at (k := (mm3 : Int)) rfl he3; omega
          clear he3 hs3
          go_wp2_with fail
          refine (unhide HC3 _ (by rw [unhide HRB]; exact Z0.low) Z0.M Z0.size).mono ?_
          rintro r w3 (⟨ys3, tv3, ho3, rfl, O3, K3, b3⟩ | ⟨ho3, ⟨tv3, code3, at3, rfl, htv3, hc3⟩, b3⟩)
          · have Y3 := Z0.tree O3 K3 b3
            obtain ⟨xt3, ct3, rfl, _⟩ := owns_form2 O3
            have HO3 := hide ho3
            clear O3 K3 ho3
            obtain ⟨tt3, htt3⟩ : ∃ l, l = tt ++ ys3 := ⟨_, rfl⟩
            rw [← htt3] at Y3 ⊢
            have HTT3 := hide htt3
            clear htt3
            obtain ⟨p30, p31⟩ := row2 Y3.F
            have fz3 := fun j => Y3.F.frozen j
            have fy3 := fun j => (Y3.F.set 0 (.int .i64 0)).frozen j
            have X3 := Y3.fault 0 0
            obtain ⟨q30, q31⟩ := row2 X3.F
            obtain ⟨u30, u31, u32, u33, uf3⟩ := row4' X3.S
            dsimp only
            obtain ⟨tg3, ht3, hy3⟩ : ∃ t, tyE ts e3 = some t ∧ ys3 = tysE ts e3 := by
              have := unhide HO3
              cases hq : tyE ts e3 with
              | none => rw [hq] at this; cases this
              | some t => rw [hq] at this; exact ⟨t, rfl, (Option.some.inj this).symm⟩
            obtain ⟨gx, rfl, gc, gl⟩ := X3.M.read (i := mm3) (t := tg3) (by rw [unhide HTT3, hy3]; exact tysE_at hp3 ht3)
            have HY3 := hide hy3
            have Ht3 := hide ht3
            clear hy3 ht3
            by_cases hq3 : tg3 = 4
            · have HST := hide (unhide HG1 (by rw [← hq3]; exact unhide Ht3))
              have HNN : (ns).length = (ts).length := unhide HNS
              have eq3 : (tg3 != 4) = false := by rw [hq3]; rfl
              clear hq3
              go_wp2_with fail
              go_roundw
              case rel => exact ⟨k + 1, ns, ts, tt3, nv, lv, _, _, unhide Hlt, by go_num, hide ⟨unhide HS _ (by rw [ckStep, unhide HCD, Option.bind_some, unhide HTT3, unhide HY3]; exact unhide HST), HNN⟩, X3.M, X3.F, X3.R, X3.low, X3.size⟩
              case measure => have := unhide Hlt; simp [intOf]; omega
            · have ht3 := unhide Ht3
              have eq3 : (tg3 != 4) = true := bne_iff_ne.2 hq3
              have HQ := hide (unhide HF (by rw [ckStep, unhide HCD, Option.bind_some]; exact unhide HG0 tg3 ht3 hq3))
              clear hq3 ht3
              have XD := X3.below (Below.refl _ _).drew
              obtain ⟨r3f0, r3f1⟩ := row2 X3.R
              have rf3f := fun j => X3.R.frozen j
              have rg3f := fun j => (X3.R.set 0 (.int .i64 9)).frozen j
              obtain ⟨s3f0, s3f1⟩ := row2 ((X3.R.set 0 (.int .i64 9)).set 1 (.int .i64 mm3))
              obtain ⟨rd0, rd1⟩ := row2 XD.R
              have rdf := fun j => XD.R.frozen j
              have rdg := fun j => (XD.R.set 0 (.int .i64 9)).frozen j
              obtain ⟨sd0, sd1⟩ := row2 ((XD.R.set 0 (.int .i64 9)).set 1 (.int .i64 mm3))
              obtain ⟨ud0, ud1, ud2, ud3, udf⟩ := row4' XD.S
              have D3f := (X3.low.setCell (p := ⟨rb, 0, none⟩) (Nat.le_refl rb) (.int .i64 9)).setCell (p := ⟨rb, 1, none⟩) (Nat.le_refl rb) (.int .i64 mm3)
              have Dd := (XD.low.setCell (p := ⟨rb, 0, none⟩) (Nat.le_refl rb) (.int .i64 9)).setCell (p := ⟨rb, 1, none⟩) (Nat.le_refl rb) (.int .i64 mm3)
              go_wp2_with fail
              go_region
              all_goals
                go_wp2_with fail
                refine bodyPost_ret (v := .tuple #[.slice none 0 0, .pointer none, .agg #[.int .i64 9, .int .i64 mm3]]) (by simp [results, Tryz.results42, go_sem, s3f0, s3f1]) rfl (.inr ⟨?_, ⟨_, _, rfl, by decide⟩, by rw [unhide HRB]; first | exact Dd | exact D3f⟩)
                exact unhide HQ
          · have F3 := Z0.F.below b3 Z0.ord.2.2.1
            have R3 := Z0.R.below b3 (by have := Z0.ord; omega)
            have D3 := Z0.low.trans (b3.mono (by have := Z0.ord; omega))
            have ec3 : (code3 != 0) = true := bne_iff_ne.2 hc3
            have Hc3 := hide hc3
            have HO3 := hide ho3
            clear hc3 ho3
            have hrf : rb ≠ fb := by have := Z0.ord; omega
            obtain ⟨p0, p1⟩ := row2 F3
            have f0 := fun j => F3.frozen j
            have f1 := fun j => (F3.set 0 (.int .i64 code3)).frozen j
            have F3 := (F3.set 0 (.int .i64 code3)).set 1 (.int .i64 at3)
            have R3 := (R3.setFar (p := ⟨fb, 0, none⟩) hrf (.int .i64 code3)).setFar (p := ⟨fb, 1, none⟩) hrf (.int .i64 at3)
            have D3 := (D3.setCell (p := ⟨fb, 0, none⟩) (by have := Z0.ord; show rb ≤ fb; omega) (.int .i64 code3)).setCell (p := ⟨fb, 1, none⟩) (by have := Z0.ord; show rb ≤ fb; omega) (.int .i64 at3)
            obtain ⟨q0, q1⟩ := row2 F3
            obtain ⟨r0, r1⟩ := row2 R3
            have rf := fun j => R3.frozen j
            have R4 := R3.set 0 (.int .i64 code3)
            have rg := fun j => R4.frozen j
            have R5 := R4.set 1 (.int .i64 at3)
            obtain ⟨s0, s1⟩ := row2 R5
            have D5 := (D3.setCell (p := ⟨rb, 0, none⟩) (Nat.le_refl rb) (.int .i64 code3)).setCell (p := ⟨rb, 1, none⟩) (Nat.le_refl rb) (.int .i64 at3)
            have FD := F3.after (Below.refl _ _).drew (Nat.le_refl _)
            have RD := R3.after (Below.refl _ _).drew (Nat.le_refl _)
            obtain ⟨qd0, qd1⟩ := row2 FD
            obtain ⟨rd0, rd1⟩ := row2 RD
            have rdf := fun j => RD.frozen j
            have rdg := fun j => (RD.set 0 (.int .i64 code3)).frozen j
            obtain ⟨sd0, sd1⟩ := row2 ((RD.set 0 (.int .i64 code3)).set 1 (.int .i64 at3))
            have Dd := (D3.drew.setCell (p := ⟨rb, 0, none⟩) (Nat.le_refl rb) (.int .i64 code3)).setCell (p := ⟨rb, 1, none⟩) (Nat.le_refl rb) (.int .i64 at3)
            dsimp only
            rcases htv3 with rfl | ⟨_, _, _, rfl⟩
            all_goals
              go_wp2_with fail
              go_region
            all_goals
              go_wp2_with fail
              refine bodyPost_ret (v := .tuple #[.slice none 0 0, .pointer none, .agg #[.int .i64 code3, .int .i64 at3]]) (by simp [results, Tryz.results42, go_sem, s0, s1]) rfl (.inr ⟨?_, ⟨_, _, rfl, unhide Hc3⟩, by rw [unhide HRB]; first | exact Dd | exact D5⟩)
              exact unhide HF (by rw [ckStep, unhide HCD, Option.bind_some]; exact unhide HGN (by have := unhide HO3; cases hq : tyE ts e3 with | none => rfl | some t => rw [hq] at this; cases this))
      · subst hc
        have HC2 := hide (unhide HT lb ns ts tt nv lv (.slice xv tt.length cv) (unhide HIN) (by have := unhide HTS; omega) (by have := unhide HRM; omega) mm e he hp hsn)
        have HCE := hide (show ckCond Es (attN ++ ns, ts, tt) ⟨kd, nm, mm, gr⟩ = ckE kd nm (attN ++ ns, ts, tt) (tyE ts e) (tysE ts e) by rw [ckCond, if_neg (by show ¬ (mm : Int) = -1; omega)]; show (match Es[(mm : Int).toNat]? with | some e => _ | none => _) = _; rw [Int.toNat_natCast, he])
        have HPc := hide (cntP_at (k := (mm : Int)) rfl he)
        rw [cntP_at (k := (mm : Int)) rfl he] at sp2
        have HNS0 := Hns
        have ic : (0 : Int) ≤ (mm : Int) := by omega
        have im : mm ≤ 4000 := by have := unhide HRM; have := unhide HPc; omega
        clear he hsn
        go_wp2_with fail
        refine (unhide HC2 _ (by rw [unhide HRB]; exact Z0.low) Z0.M Z0.size).mono ?_
        rintro r w2 (⟨ys2, tv2, ho2, rfl, O2, K2, b2⟩ | ⟨ho2, ⟨tv2, code2, at2, rfl, htv2, hc2⟩, b2⟩)
        · have Y2 := Z0.tree O2 K2 b2
          obtain ⟨xt2, ct2, rfl, _⟩ := owns_form2 O2
          have HO2 := hide ho2
          clear O2 K2 ho2
          obtain ⟨tt2, htt2⟩ : ∃ l, l = tt ++ ys2 := ⟨_, rfl⟩
          rw [← htt2] at Y2 ⊢
          have HTT2 := hide htt2
          clear htt2
          obtain ⟨p20, p21⟩ := row2 Y2.F
          have fz2 := fun j => Y2.F.frozen j
          have fy2 := fun j => (Y2.F.set 0 (.int .i64 0)).frozen j
          have X2 := Y2.fault 0 0
          obtain ⟨q20, q21⟩ := row2 X2.F
          obtain ⟨u20, u21, u22, u23, uf2⟩ := row4' X2.S
          dsimp only
          obtain ⟨t2, ht2, hy2⟩ : ∃ t, tyE ts e = some t ∧ ys2 = tysE ts e := by
            have := unhide HO2
            cases hq : tyE ts e with
            | none => rw [hq] at this; cases this
            | some t => rw [hq] at this; exact ⟨t, rfl, (Option.some.inj this).symm⟩
          obtain ⟨gx2, rfl, gc2, gl2⟩ := X2.M.read (i := mm) (t := t2) (by rw [unhide HTT2, hy2]; exact tysE_at hp ht2)
          have hln2 : tt.length + e.cnt = tt2.length := by rw [unhide HTT2, List.length_append, hy2, tysE_len]
          rw [hln2] at sp2
          have HTR := hide (show tt2.length + cntP Es gr ≤ 4000 by have := unhide HRM; have := unhide HPc; omega)
          have HY2 := hide hy2
          have HTY := hide (tyE_in (unhide HIN) e t2 ht2)
          have HCF := hide (show ckCond Es (attN ++ ns, ts, tt) ⟨kd, nm, mm, gr⟩ = ckE kd nm (attN ++ ns, ts, tt) (some t2) ys2 by rw [unhide HCE, ht2, hy2])
          clear hy2 ht2 hln2
          by_cases hk1 : kd = 1
          · subst hk1
            by_cases hm1 : nm ∈ (attN : List ByteArray)
            · have fp := (findI_pos nm attN 0 (Int.le_refl 0)).2 hm1
              have HQ := hide (unhide HF (by rw [ckStep, unhide HCF, ckE_again (List.mem_append_left _ hm1)]; rfl))
              clear hm1
              go_wp2_with fail
              refine (l3attr_any _ _).mono ?_
              rintro r w4 ⟨rfl, b4⟩
              have X4 := X2.below b4
              obtain ⟨v40, v41, v42, v43, vf4⟩ := row4' X4.S
              generalize findI nm attN 0 = fi at fp ⊢
              dsimp only
              have XD := X4.below (Below.refl _ _).drew
              obtain ⟨r8a0, r8a1⟩ := row2 X4.R
              have rf8a := fun j => X4.R.frozen j
              have rg8a := fun j => (X4.R.set 0 (.int .i64 8)).frozen j
              obtain ⟨s8a0, s8a1⟩ := row2 ((X4.R.set 0 (.int .i64 8)).set 1 (.int .i64 mm))
              obtain ⟨rd0, rd1⟩ := row2 XD.R
              have rdf := fun j => XD.R.frozen j
              have rdg := fun j => (XD.R.set 0 (.int .i64 8)).frozen j
              obtain ⟨sd0, sd1⟩ := row2 ((XD.R.set 0 (.int .i64 8)).set 1 (.int .i64 mm))
              obtain ⟨ud0, ud1, ud2, ud3, udf⟩ := row4' XD.S
              have D8a := (X4.low.setCell (p := ⟨rb, 0, none⟩) (Nat.le_refl rb) (.int .i64 8)).setCell (p := ⟨rb, 1, none⟩) (Nat.le_refl rb) (.int .i64 mm)
              have Dd := (XD.low.setCell (p := ⟨rb, 0, none⟩) (Nat.le_refl rb) (.int .i64 8)).setCell (p := ⟨rb, 1, none⟩) (Nat.le_refl rb) (.int .i64 mm)
              go_wp2_with fail
              go_region
              all_goals
                go_wp2_with fail
                refine bodyPost_ret (v := .tuple #[.slice none 0 0, .pointer none, .agg #[.int .i64 8, .int .i64 mm]]) (by simp [results, Tryz.results42, go_sem, s8a0, s8a1]) rfl (.inr ⟨?_, ⟨_, _, rfl, by decide⟩, by rw [unhide HRB]; first | exact Dd | exact D8a⟩)
                exact unhide HQ
            · have fp : ¬ (0 ≤ findI nm attN 0) := fun h => hm1 ((findI_pos nm attN 0 (Int.le_refl 0)).1 h)
              obtain ⟨xn, cn, rfl, _⟩ := owns_form2 X2.M.names
              by_cases hm2 : nm ∈ ns
              · have fq := (findI_pos nm ns 0 (Int.le_refl 0)).2 hm2
                have HQ := hide (unhide HF (by rw [ckStep, unhide HCF, ckE_again (List.mem_append_right _ hm2)]; rfl))
                clear hm1 hm2
                go_wp2_with fail
                refine (l3attr_any _ _).mono ?_
                rintro r w4 ⟨rfl, b4⟩
                have X4 := X2.below b4
                obtain ⟨v40, v41, v42, v43, vf4⟩ := row4' X4.S
                generalize findI nm attN 0 = fi at fp ⊢
                dsimp only
                go_wp2_with fail
                refine (find_any lb xn ns.length cn ns nm _ X4.M.nmsAt.2 X4.M.row.lt rfl (by have := unhide HNS0; have := unhide HTS; omega) X4.M.nmsAt.1).mono ?_
                rintro r w5 ⟨rfl, b5⟩
                have X5 := X4.below b5
                obtain ⟨v50, v51, v52, v53, vf5⟩ := row4' X5.S
                generalize findI nm ns 0 = fj at fq ⊢
                dsimp only
                have XD := X5.below (Below.refl _ _).drew
                obtain ⟨r8b0, r8b1⟩ := row2 X5.R
                have rf8b := fun j => X5.R.frozen j
                have rg8b := fun j => (X5.R.set 0 (.int .i64 8)).frozen j
                obtain ⟨s8b0, s8b1⟩ := row2 ((X5.R.set 0 (.int .i64 8)).set 1 (.int .i64 mm))
                obtain ⟨rd0, rd1⟩ := row2 XD.R
                have rdf := fun j => XD.R.frozen j
                have rdg := fun j => (XD.R.set 0 (.int .i64 8)).frozen j
                obtain ⟨sd0, sd1⟩ := row2 ((XD.R.set 0 (.int .i64 8)).set 1 (.int .i64 mm))
                obtain ⟨ud0, ud1, ud2, ud3, udf⟩ := row4' XD.S
                have D8b := (X5.low.setCell (p := ⟨rb, 0, none⟩) (Nat.le_refl rb) (.int .i64 8)).setCell (p := ⟨rb, 1, none⟩) (Nat.le_refl rb) (.int .i64 mm)
                have Dd := (XD.low.setCell (p := ⟨rb, 0, none⟩) (Nat.le_refl rb) (.int .i64 8)).setCell (p := ⟨rb, 1, none⟩) (Nat.le_refl rb) (.int .i64 mm)
                go_wp2_with fail
                go_region
                all_goals
                  go_wp2_with fail
                  refine bodyPost_ret (v := .tuple #[.slice none 0 0, .pointer none, .agg #[.int .i64 8, .int .i64 mm]]) (by simp [results, Tryz.results42, go_sem, s8b0, s8b1]) rfl (.inr ⟨?_, ⟨_, _, rfl, by decide⟩, by rw [unhide HRB]; first | exact Dd | exact D8b⟩)
                  exact unhide HQ
              · have fq : ¬ (0 ≤ findI nm ns 0) := fun h => hm2 ((findI_pos nm ns 0 (Int.le_refl 0)).1 h)
                have HCD := hide ((unhide HCF).trans (ckE_let (st := (attN ++ ns, ts, tt)) (t := t2) (ys := ys2) (fun h => (List.mem_append.1 h).elim hm1 hm2)))
                clear hm1 hm2
                go_wp2_with fail
                refine (l3attr_any _ _).mono ?_
                rintro r w4 ⟨rfl, b4⟩
                have X4 := X2.below b4
                obtain ⟨v40, v41, v42, v43, vf4⟩ := row4' X4.S
                generalize findI nm attN 0 = fi at fp ⊢
                dsimp only
                go_wp2_with fail
                refine (find_any lb xn ns.length cn ns nm _ X4.M.nmsAt.2 X4.M.row.lt rfl (by have := unhide HNS0; have := unhide HTS; omega) X4.M.nmsAt.1).mono ?_
                rintro r w5 ⟨rfl, b5⟩
                have X5 := X4.below b5
                obtain ⟨v50, v51, v52, v53, vf5⟩ := row4' X5.S
                generalize findI nm ns 0 = fj at fq ⊢
                dsimp only
                obtain ⟨xl, cl, rfl, _⟩ := owns_form2 X5.M.lets
                obtain ⟨nn0, nn1⟩ := row2 X5.M.row
                have nf := fun j => X5.M.row.frozen j
                have XD := X5.below (Below.refl _ _).drew
                obtain ⟨nd0, nd1⟩ := row2 XD.M.row
                have ndf := fun j => XD.M.row.frozen j
                obtain ⟨vd0, vd1, vd2, vd3, vdf⟩ := row4' XD.S
                have hsz5 : B ≤ w5.heap.size := X5.size
                have hnl : ns.length ≤ 1000 := by have := unhide HNS0; have := unhide HTS; omega
                have htl : ts.length ≤ 1000 := by have := unhide HTS; omega
                have hlb5 : lb < w5.heap.size := X5.M.row.lt
                have hrl : rb ≤ lb := by have := X5.ord; omega
                have hrB : rb ≤ B := by have := X5.ord; omega
                go_wp2_with fail
                have f4 : (w5.alloc (.cells #[.string nm] 9)).drew.frozen? ⟨lb, 0, none⟩ = false := (X5.M.row.alloc _).frozen 0
                have ow : (w5.alloc (.cells #[.string nm] 9)).drew.ownsRow B 9 1 (.slice xn ns.length cn) ns.length (ns.map Value.string) := (X5.M.names.alloc _).drew
                go_region_law (refine step_append_lies _ rfl _ _ 51 rfl B 9 si (.string ByteArray.empty) 1 16 Tryz.underlying51 hsi sz0 sz1 sz2 rfl (by decide) (.slice xn ns.length cn) ns.length (ns.map Value.string) rfl ow ⟨w5.heap.size, 0, none⟩ 1 1 [.string nm] rfl rfl (one_cell w5 _ _ _ rfl) (by intro u hu; simp at hu; subst hu; rfl) (by decide) (by unfold maxLen; omega) (by omega) (by simp; omega) _ rfl ?_; intro b1 c1 w6 O1 hgrow hat hlt6; have R6 : Row w6 lb #[.slice xn ns.length cn, .slice xl ts.length cl] 134 := ⟨(hgrow.block lb (by simp; omega) (fun e => own_ne_row X5.M.row X5.M.names (by decide) e.symm)).trans (X5.M.row.alloc (.cells #[.string nm] 9)).out⟩; have s6 : w6.cell? ⟨lb, 0, none⟩ = some (.slice xn ns.length cn) ∧ w6.frozen? ⟨lb, 0, none⟩ = false := ⟨R6.cell 0, R6.frozen 0⟩; obtain ⟨s60, s61⟩ := s6)
                all_goals
                  have hg2 : (w5.alloc (.cells #[.string nm] 9)).grownBy w6 (Value.slice xn ns.length cn).ownBlock := ⟨hgrow.os, hgrow.tape, hgrow.output, hgrow.size, hgrow.block⟩
                  obtain ⟨_, M6, K6, Z6⟩ := X5.M.pushN X5.size O1 hg2 (hat.imp id (fun e => by rw [e]; show (w5.alloc _).heap.size = _; simp))
                  have b6 := (((Below.refl rb w5).alloc (by omega) (.cells #[.string nm] 9)).grown hg2 (by simp; omega) (fun q hq => by have := (X5.M.names.lt q hq).1; omega)).setCell (p := ⟨lb, 0, none⟩) hrl (.slice (some ⟨b1, 0, none⟩) (ns.length + 1) c1)
                  have X6 := X5.of_kept X5.M.names (by decide) (by decide) M6 K6 b6
                  clear hgrow hg2 hat O1 ow R6 M6 K6 b6 f4 s60 s61
                  generalize w6.setCell ⟨lb, 0, none⟩ (.slice (some ⟨b1, 0, none⟩) (ns.length + 1) c1) = W6 at X6 ⊢
                  obtain ⟨m60, m61⟩ := row2 X6.M.row
                  have mf := fun j => X6.M.row.frozen j
                  have hsz6 : B ≤ W6.heap.size := X6.size
                  have hlb6 : lb < W6.heap.size := X6.M.row.lt
                  go_wp2_with (at_builtin; refine wpList_append_lies _ rfl _ _ 24 rfl B 3 ii (.int .i64 0) 1 8 Tryz.underlying24 hii ez0 ez1 ez2 rfl (by decide) _ _ _ rfl (World.ownsRow.alloc X6.M.lets _) ⟨W6.heap.size, 0, none⟩ 1 1 [.int .i64 t2] rfl rfl ?c1 ?c2 (by decide) ?c3 ?c4 ?c5 (W6.heap.size + 1) (by simp) ?_)
                  case c1 => exact one_cell _ _ _ _ (by simp)
                  case c2 => intro u hu; simp at hu; subst hu; rfl
                  case c3 => unfold maxLen; omega
                  case c4 => omega
                  case c5 => simp; omega
                  intro g7 cap7 w7 O7 hgrow hat hgl
                  obtain ⟨R7, M7, K7, Z7⟩ := X6.M.pushL X6.size O7 hgrow hat
                  have b7 := (((Below.refl rb W6).alloc (by omega) (.cells #[.int .i64 t2] 3)).grown hgrow (by simp; omega) (fun q hq => by have := (X6.M.lets.lt q hq).1; omega)).setCell (p := ⟨lb, 1, none⟩) hrl (.slice (some ⟨g7, 0, none⟩) (ts.length + 1) cap7)
                  have X7 := X6.of_kept X6.M.lets (by decide) (by decide) M7 K7 b7
                  obtain ⟨m70, m71⟩ := row2 R7
                  have mf7 := fun j => R7.frozen j
                  obtain ⟨v70, v71, v72, v73, vf7⟩ := row4' X7.S
                  clear hgrow hat O7 M7 K7 b7
                  have HCE7 := hide (show ckCond Es (attN ++ ns, ts, tt) ⟨1, nm, mm, gr⟩ = some (attN ++ (ns ++ [nm]), ts ++ [t2], tt2) by rw [unhide HCD, unhide HTT2, ← List.append_assoc])
                  have HNS := hide (show (ns ++ [nm]).length = (ts ++ [t2]).length by rw [List.length_append, List.length_append, unhide HNS0]; rfl)
                  have HINN := hide (show ∀ t ∈ ts ++ [t2], 1 ≤ t ∧ t ≤ 4 from fun t h => (List.mem_append.1 h).elim (unhide HIN t) (fun h => by simp at h; subst h; exact unhide HTY))
                  have HTSN := hide (show (ts ++ [t2]).length ≤ 601 by rw [List.length_append]; have := unhide HTS; simp; omega)
                  generalize ns ++ [nm] = ns7 at X7 HCE7 HNS
                  generalize ts ++ [t2] = ts7 at X7 HCE7 HNS HINN HTSN
                  clear HCD
                  have HCD := HCE7
                  clear HCE7
                  rcases sp2 with hg | ⟨mm3, e3, hg, he3, hp3, hs3⟩
                  · subst hg
                    have HNN : (ns7).length = (ts7).length := unhide HNS
                    go_wp2_with fail
                    go_roundw
                    case rel => exact ⟨k + 1, ns7, ts7, tt2, (.slice (some ⟨b1, 0, none⟩) (ns.length + 1) c1), (.slice (some ⟨g7, 0, none⟩) (ts.length + 1) cap7), _, _, unhide Hlt, by go_num, hide ⟨unhide HS _ (by rw [ckStep, unhide HCD, Option.bind_some]; rfl), HNN⟩, X7.M, X7.F, X7.R, X7.low, X7.size⟩
                    case measure => have := unhide Hlt; simp [intOf]; omega
                  · subst hg
                    have HC3 := hide (unhide HT lb ns7 ts7 tt2 (.slice (some ⟨b1, 0, none⟩) (ns.length + 1) c1) (.slice (some ⟨g7, 0, none⟩) (ts.length + 1) cap7) (.slice (some ⟨gx2, 0, none⟩) tt2.length ct2) (unhide HINN) (by have := unhide HTSN; omega) (by have := unhide HRM; have := unhide HTR; omega) mm3 e3 he3 hp3 hs3)
                    have HGN := hide (show tyE ts7 e3 = none → ckGrant Es (attN ++ ns7, ts7, tt2) ⟨1, nm, mm, mm3⟩ = none from fun h => by rw [ckGrant, if_neg (by show ¬ (mm3 : Int) = -1; omega)]; show (match Es[(mm3 : Int).toNat]? with | some e => _ | none => _) = _; rw [Int.toNat_natCast, he3]; show ckG _ (tyE ts7 e3) _ = _; rw [h]; rfl)
                    have HG0 := hide (show ∀ t, tyE ts7 e3 = some t → t ≠ 4 → ckGrant Es (attN ++ ns7, ts7, tt2) ⟨1, nm, mm, mm3⟩ = none from fun t h h4 => by rw [ckGrant, if_neg (by show ¬ (mm3 : Int) = -1; omega)]; show (match Es[(mm3 : Int).toNat]? with | some e => _ | none => _) = _; rw [Int.toNat_natCast, he3]; show ckG _ (tyE ts7 e3) _ = _; rw [h]; exact if_neg h4)
                    have HG1 := hide (show tyE ts7 e3 = some 4 → ckGrant Es (attN ++ ns7, ts7, tt2) ⟨1, nm, mm, mm3⟩ = some (attN ++ ns7, ts7, tt2 ++ tysE ts7 e3) from fun h => by rw [ckGrant, if_neg (by show ¬ (mm3 : Int) = -1; omega)]; show (match Es[(mm3 : Int).toNat]? with | some e => _ | none => _) = _; rw [Int.toNat_natCast, he3]; show ckG _ (tyE ts7 e3) _ = _; rw [h]; rfl)
                    have ig3 : (0 : Int) ≤ (mm3 : Int) := by omega
                    have im3 : mm3 ≤ 4000 := by have := unhide HRM; have := unhide HTR; have := cntP_at (k := (mm3 : Int)) rfl he3; omega
                    clear he3 hs3
                    go_wp2_with fail
                    refine (unhide HC3 _ (by rw [unhide HRB]; exact X7.low) X7.M X7.size).mono ?_
                    rintro r w3 (⟨ys3, tv3, ho3, rfl, O3, K3, b3⟩ | ⟨ho3, ⟨tv3, code3, at3, rfl, htv3, hc3⟩, b3⟩)
                    · have Y3 := X7.tree O3 K3 b3
                      obtain ⟨xt3, ct3, rfl, _⟩ := owns_form2 O3
                      have HO3 := hide ho3
                      clear O3 K3 ho3
                      obtain ⟨tt3, htt3⟩ : ∃ l, l = tt2 ++ ys3 := ⟨_, rfl⟩
                      rw [← htt3] at Y3 ⊢
                      have HTT3 := hide htt3
                      clear htt3
                      obtain ⟨p30, p31⟩ := row2 Y3.F
                      have fz3 := fun j => Y3.F.frozen j
                      have fy3 := fun j => (Y3.F.set 0 (.int .i64 0)).frozen j
                      have X3 := Y3.fault 0 0
                      obtain ⟨q30, q31⟩ := row2 X3.F
                      obtain ⟨u30, u31, u32, u33, uf3⟩ := row4' X3.S
                      dsimp only
                      obtain ⟨tg3, ht3, hy3⟩ : ∃ t, tyE ts7 e3 = some t ∧ ys3 = tysE ts7 e3 := by
                        have := unhide HO3
                        cases hq : tyE ts7 e3 with
                        | none => rw [hq] at this; cases this
                        | some t => rw [hq] at this; exact ⟨t, rfl, (Option.some.inj this).symm⟩
                      obtain ⟨gx, rfl, gc, gl⟩ := X3.M.read (i := mm3) (t := tg3) (by rw [unhide HTT3, hy3]; exact tysE_at hp3 ht3)
                      have HY3 := hide hy3
                      have Ht3 := hide ht3
                      clear hy3 ht3
                      by_cases hq3 : tg3 = 4
                      · have HST := hide (unhide HG1 (by rw [← hq3]; exact unhide Ht3))
                        have HNN : (ns7).length = (ts7).length := unhide HNS
                        have eq3 : (tg3 != 4) = false := by rw [hq3]; rfl
                        clear hq3
                        go_wp2_with fail
                        go_roundw
                        case rel => exact ⟨k + 1, ns7, ts7, tt3, (.slice (some ⟨b1, 0, none⟩) (ns.length + 1) c1), (.slice (some ⟨g7, 0, none⟩) (ts.length + 1) cap7), _, _, unhide Hlt, by go_num, hide ⟨unhide HS _ (by rw [ckStep, unhide HCD, Option.bind_some, unhide HTT3, unhide HY3]; exact unhide HST), HNN⟩, X3.M, X3.F, X3.R, X3.low, X3.size⟩
                        case measure => have := unhide Hlt; simp [intOf]; omega
                      · have ht3 := unhide Ht3
                        have eq3 : (tg3 != 4) = true := bne_iff_ne.2 hq3
                        have HQ := hide (unhide HF (by rw [ckStep, unhide HCD, Option.bind_some]; exact unhide HG0 tg3 ht3 hq3))
                        clear hq3 ht3
                        have XD := X3.below (Below.refl _ _).drew
                        obtain ⟨r3f0, r3f1⟩ := row2 X3.R
                        have rf3f := fun j => X3.R.frozen j
                        have rg3f := fun j => (X3.R.set 0 (.int .i64 9)).frozen j
                        obtain ⟨s3f0, s3f1⟩ := row2 ((X3.R.set 0 (.int .i64 9)).set 1 (.int .i64 mm3))
                        obtain ⟨rd0, rd1⟩ := row2 XD.R
                        have rdf := fun j => XD.R.frozen j
                        have rdg := fun j => (XD.R.set 0 (.int .i64 9)).frozen j
                        obtain ⟨sd0, sd1⟩ := row2 ((XD.R.set 0 (.int .i64 9)).set 1 (.int .i64 mm3))
                        obtain ⟨ud0, ud1, ud2, ud3, udf⟩ := row4' XD.S
                        have D3f := (X3.low.setCell (p := ⟨rb, 0, none⟩) (Nat.le_refl rb) (.int .i64 9)).setCell (p := ⟨rb, 1, none⟩) (Nat.le_refl rb) (.int .i64 mm3)
                        have Dd := (XD.low.setCell (p := ⟨rb, 0, none⟩) (Nat.le_refl rb) (.int .i64 9)).setCell (p := ⟨rb, 1, none⟩) (Nat.le_refl rb) (.int .i64 mm3)
                        go_wp2_with fail
                        go_region
                        all_goals
                          go_wp2_with fail
                          refine bodyPost_ret (v := .tuple #[.slice none 0 0, .pointer none, .agg #[.int .i64 9, .int .i64 mm3]]) (by simp [results, Tryz.results42, go_sem, s3f0, s3f1]) rfl (.inr ⟨?_, ⟨_, _, rfl, by decide⟩, by rw [unhide HRB]; first | exact Dd | exact D3f⟩)
                          exact unhide HQ
                    · have F3 := X7.F.below b3 X7.ord.2.2.1
                      have R3 := X7.R.below b3 (by have := X7.ord; omega)
                      have D3 := X7.low.trans (b3.mono (by have := X7.ord; omega))
                      have ec3 : (code3 != 0) = true := bne_iff_ne.2 hc3
                      have Hc3 := hide hc3
                      have HO3 := hide ho3
                      clear hc3 ho3
                      have hrf : rb ≠ fb := by have := X7.ord; omega
                      obtain ⟨p0, p1⟩ := row2 F3
                      have f0 := fun j => F3.frozen j
                      have f1 := fun j => (F3.set 0 (.int .i64 code3)).frozen j
                      have F3 := (F3.set 0 (.int .i64 code3)).set 1 (.int .i64 at3)
                      have R3 := (R3.setFar (p := ⟨fb, 0, none⟩) hrf (.int .i64 code3)).setFar (p := ⟨fb, 1, none⟩) hrf (.int .i64 at3)
                      have D3 := (D3.setCell (p := ⟨fb, 0, none⟩) (by have := X7.ord; show rb ≤ fb; omega) (.int .i64 code3)).setCell (p := ⟨fb, 1, none⟩) (by have := X7.ord; show rb ≤ fb; omega) (.int .i64 at3)
                      obtain ⟨q0, q1⟩ := row2 F3
                      obtain ⟨r0, r1⟩ := row2 R3
                      have rf := fun j => R3.frozen j
                      have R4 := R3.set 0 (.int .i64 code3)
                      have rg := fun j => R4.frozen j
                      have R5 := R4.set 1 (.int .i64 at3)
                      obtain ⟨s0, s1⟩ := row2 R5
                      have D5 := (D3.setCell (p := ⟨rb, 0, none⟩) (Nat.le_refl rb) (.int .i64 code3)).setCell (p := ⟨rb, 1, none⟩) (Nat.le_refl rb) (.int .i64 at3)
                      have FD := F3.after (Below.refl _ _).drew (Nat.le_refl _)
                      have RD := R3.after (Below.refl _ _).drew (Nat.le_refl _)
                      obtain ⟨qd0, qd1⟩ := row2 FD
                      obtain ⟨rd0, rd1⟩ := row2 RD
                      have rdf := fun j => RD.frozen j
                      have rdg := fun j => (RD.set 0 (.int .i64 code3)).frozen j
                      obtain ⟨sd0, sd1⟩ := row2 ((RD.set 0 (.int .i64 code3)).set 1 (.int .i64 at3))
                      have Dd := (D3.drew.setCell (p := ⟨rb, 0, none⟩) (Nat.le_refl rb) (.int .i64 code3)).setCell (p := ⟨rb, 1, none⟩) (Nat.le_refl rb) (.int .i64 at3)
                      dsimp only
                      rcases htv3 with rfl | ⟨_, _, _, rfl⟩
                      all_goals
                        go_wp2_with fail
                        go_region
                      all_goals
                        go_wp2_with fail
                        refine bodyPost_ret (v := .tuple #[.slice none 0 0, .pointer none, .agg #[.int .i64 code3, .int .i64 at3]]) (by simp [results, Tryz.results42, go_sem, s0, s1]) rfl (.inr ⟨?_, ⟨_, _, rfl, unhide Hc3⟩, by rw [unhide HRB]; first | exact Dd | exact D5⟩)
                        exact unhide HF (by rw [ckStep, unhide HCD, Option.bind_some]; exact unhide HGN (by have := unhide HO3; cases hq : tyE ts7 e3 with | none => rfl | some t => rw [hq] at this; cases this))
          · have ek1 : (kd == 1) = false := beq_eq_false_iff_ne.2 hk1
            by_cases ht1 : t2 = 1
            · subst ht1
              have HCD := hide ((unhide HCF).trans (ckE_when (nm := nm) (st := (attN ++ ns, ts, tt)) (ys := ys2) hk1))
              have HCD2 := hide (show ckCond Es (attN ++ ns, ts, tt) ⟨kd, nm, mm, gr⟩ = some (attN ++ ns, ts, tt2) by rw [unhide HCD, unhide HTT2])
              have HNS := Hns
              have HINN := HIN
              have HTSN := hide (show ts.length ≤ 601 by have := unhide HTS; omega)
              clear hk1 HCD
              have HCD := HCD2
              clear HCD2
              rcases sp2 with hg | ⟨mm3, e3, hg, he3, hp3, hs3⟩
              · subst hg
                have HNN : (ns).length = (ts).length := unhide HNS
                go_wp2_with fail
                go_roundw
                case rel => exact ⟨k + 1, ns, ts, tt2, nv, lv, _, _, unhide Hlt, by go_num, hide ⟨unhide HS _ (by rw [ckStep, unhide HCD, Option.bind_some]; rfl), HNN⟩, X2.M, X2.F, X2.R, X2.low, X2.size⟩
                case measure => have := unhide Hlt; simp [intOf]; omega
              · subst hg
                have HC3 := hide (unhide HT lb ns ts tt2 nv lv (.slice (some ⟨gx2, 0, none⟩) tt2.length ct2) (unhide HINN) (by have := unhide HTSN; omega) (by have := unhide HRM; have := unhide HTR; omega) mm3 e3 he3 hp3 hs3)
                have HGN := hide (show tyE ts e3 = none → ckGrant Es (attN ++ ns, ts, tt2) ⟨kd, nm, mm, mm3⟩ = none from fun h => by rw [ckGrant, if_neg (by show ¬ (mm3 : Int) = -1; omega)]; show (match Es[(mm3 : Int).toNat]? with | some e => _ | none => _) = _; rw [Int.toNat_natCast, he3]; show ckG _ (tyE ts e3) _ = _; rw [h]; rfl)
                have HG0 := hide (show ∀ t, tyE ts e3 = some t → t ≠ 4 → ckGrant Es (attN ++ ns, ts, tt2) ⟨kd, nm, mm, mm3⟩ = none from fun t h h4 => by rw [ckGrant, if_neg (by show ¬ (mm3 : Int) = -1; omega)]; show (match Es[(mm3 : Int).toNat]? with | some e => _ | none => _) = _; rw [Int.toNat_natCast, he3]; show ckG _ (tyE ts e3) _ = _; rw [h]; exact if_neg h4)
                have HG1 := hide (show tyE ts e3 = some 4 → ckGrant Es (attN ++ ns, ts, tt2) ⟨kd, nm, mm, mm3⟩ = some (attN ++ ns, ts, tt2 ++ tysE ts e3) from fun h => by rw [ckGrant, if_neg (by show ¬ (mm3 : Int) = -1; omega)]; show (match Es[(mm3 : Int).toNat]? with | some e => _ | none => _) = _; rw [Int.toNat_natCast, he3]; show ckG _ (tyE ts e3) _ = _; rw [h]; rfl)
                have ig3 : (0 : Int) ≤ (mm3 : Int) := by omega
                have im3 : mm3 ≤ 4000 := by have := unhide HRM; have := unhide HTR; have := cntP_at (k := (mm3 : Int)) rfl he3; omega
                clear he3 hs3
                go_wp2_with fail
                refine (unhide HC3 _ (by rw [unhide HRB]; exact X2.low) X2.M X2.size).mono ?_
                rintro r w3 (⟨ys3, tv3, ho3, rfl, O3, K3, b3⟩ | ⟨ho3, ⟨tv3, code3, at3, rfl, htv3, hc3⟩, b3⟩)
                · have Y3 := X2.tree O3 K3 b3
                  obtain ⟨xt3, ct3, rfl, _⟩ := owns_form2 O3
                  have HO3 := hide ho3
                  clear O3 K3 ho3
                  obtain ⟨tt3, htt3⟩ : ∃ l, l = tt2 ++ ys3 := ⟨_, rfl⟩
                  rw [← htt3] at Y3 ⊢
                  have HTT3 := hide htt3
                  clear htt3
                  obtain ⟨p30, p31⟩ := row2 Y3.F
                  have fz3 := fun j => Y3.F.frozen j
                  have fy3 := fun j => (Y3.F.set 0 (.int .i64 0)).frozen j
                  have X3 := Y3.fault 0 0
                  obtain ⟨q30, q31⟩ := row2 X3.F
                  obtain ⟨u30, u31, u32, u33, uf3⟩ := row4' X3.S
                  dsimp only
                  obtain ⟨tg3, ht3, hy3⟩ : ∃ t, tyE ts e3 = some t ∧ ys3 = tysE ts e3 := by
                    have := unhide HO3
                    cases hq : tyE ts e3 with
                    | none => rw [hq] at this; cases this
                    | some t => rw [hq] at this; exact ⟨t, rfl, (Option.some.inj this).symm⟩
                  obtain ⟨gx, rfl, gc, gl⟩ := X3.M.read (i := mm3) (t := tg3) (by rw [unhide HTT3, hy3]; exact tysE_at hp3 ht3)
                  have HY3 := hide hy3
                  have Ht3 := hide ht3
                  clear hy3 ht3
                  by_cases hq3 : tg3 = 4
                  · have HST := hide (unhide HG1 (by rw [← hq3]; exact unhide Ht3))
                    have HNN : (ns).length = (ts).length := unhide HNS
                    have eq3 : (tg3 != 4) = false := by rw [hq3]; rfl
                    clear hq3
                    go_wp2_with fail
                    go_roundw
                    case rel => exact ⟨k + 1, ns, ts, tt3, nv, lv, _, _, unhide Hlt, by go_num, hide ⟨unhide HS _ (by rw [ckStep, unhide HCD, Option.bind_some, unhide HTT3, unhide HY3]; exact unhide HST), HNN⟩, X3.M, X3.F, X3.R, X3.low, X3.size⟩
                    case measure => have := unhide Hlt; simp [intOf]; omega
                  · have ht3 := unhide Ht3
                    have eq3 : (tg3 != 4) = true := bne_iff_ne.2 hq3
                    have HQ := hide (unhide HF (by rw [ckStep, unhide HCD, Option.bind_some]; exact unhide HG0 tg3 ht3 hq3))
                    clear hq3 ht3
                    have XD := X3.below (Below.refl _ _).drew
                    obtain ⟨r3f0, r3f1⟩ := row2 X3.R
                    have rf3f := fun j => X3.R.frozen j
                    have rg3f := fun j => (X3.R.set 0 (.int .i64 9)).frozen j
                    obtain ⟨s3f0, s3f1⟩ := row2 ((X3.R.set 0 (.int .i64 9)).set 1 (.int .i64 mm3))
                    obtain ⟨rd0, rd1⟩ := row2 XD.R
                    have rdf := fun j => XD.R.frozen j
                    have rdg := fun j => (XD.R.set 0 (.int .i64 9)).frozen j
                    obtain ⟨sd0, sd1⟩ := row2 ((XD.R.set 0 (.int .i64 9)).set 1 (.int .i64 mm3))
                    obtain ⟨ud0, ud1, ud2, ud3, udf⟩ := row4' XD.S
                    have D3f := (X3.low.setCell (p := ⟨rb, 0, none⟩) (Nat.le_refl rb) (.int .i64 9)).setCell (p := ⟨rb, 1, none⟩) (Nat.le_refl rb) (.int .i64 mm3)
                    have Dd := (XD.low.setCell (p := ⟨rb, 0, none⟩) (Nat.le_refl rb) (.int .i64 9)).setCell (p := ⟨rb, 1, none⟩) (Nat.le_refl rb) (.int .i64 mm3)
                    go_wp2_with fail
                    go_region
                    all_goals
                      go_wp2_with fail
                      refine bodyPost_ret (v := .tuple #[.slice none 0 0, .pointer none, .agg #[.int .i64 9, .int .i64 mm3]]) (by simp [results, Tryz.results42, go_sem, s3f0, s3f1]) rfl (.inr ⟨?_, ⟨_, _, rfl, by decide⟩, by rw [unhide HRB]; first | exact Dd | exact D3f⟩)
                      exact unhide HQ
                · have F3 := X2.F.below b3 X2.ord.2.2.1
                  have R3 := X2.R.below b3 (by have := X2.ord; omega)
                  have D3 := X2.low.trans (b3.mono (by have := X2.ord; omega))
                  have ec3 : (code3 != 0) = true := bne_iff_ne.2 hc3
                  have Hc3 := hide hc3
                  have HO3 := hide ho3
                  clear hc3 ho3
                  have hrf : rb ≠ fb := by have := X2.ord; omega
                  obtain ⟨p0, p1⟩ := row2 F3
                  have f0 := fun j => F3.frozen j
                  have f1 := fun j => (F3.set 0 (.int .i64 code3)).frozen j
                  have F3 := (F3.set 0 (.int .i64 code3)).set 1 (.int .i64 at3)
                  have R3 := (R3.setFar (p := ⟨fb, 0, none⟩) hrf (.int .i64 code3)).setFar (p := ⟨fb, 1, none⟩) hrf (.int .i64 at3)
                  have D3 := (D3.setCell (p := ⟨fb, 0, none⟩) (by have := X2.ord; show rb ≤ fb; omega) (.int .i64 code3)).setCell (p := ⟨fb, 1, none⟩) (by have := X2.ord; show rb ≤ fb; omega) (.int .i64 at3)
                  obtain ⟨q0, q1⟩ := row2 F3
                  obtain ⟨r0, r1⟩ := row2 R3
                  have rf := fun j => R3.frozen j
                  have R4 := R3.set 0 (.int .i64 code3)
                  have rg := fun j => R4.frozen j
                  have R5 := R4.set 1 (.int .i64 at3)
                  obtain ⟨s0, s1⟩ := row2 R5
                  have D5 := (D3.setCell (p := ⟨rb, 0, none⟩) (Nat.le_refl rb) (.int .i64 code3)).setCell (p := ⟨rb, 1, none⟩) (Nat.le_refl rb) (.int .i64 at3)
                  have FD := F3.after (Below.refl _ _).drew (Nat.le_refl _)
                  have RD := R3.after (Below.refl _ _).drew (Nat.le_refl _)
                  obtain ⟨qd0, qd1⟩ := row2 FD
                  obtain ⟨rd0, rd1⟩ := row2 RD
                  have rdf := fun j => RD.frozen j
                  have rdg := fun j => (RD.set 0 (.int .i64 code3)).frozen j
                  obtain ⟨sd0, sd1⟩ := row2 ((RD.set 0 (.int .i64 code3)).set 1 (.int .i64 at3))
                  have Dd := (D3.drew.setCell (p := ⟨rb, 0, none⟩) (Nat.le_refl rb) (.int .i64 code3)).setCell (p := ⟨rb, 1, none⟩) (Nat.le_refl rb) (.int .i64 at3)
                  dsimp only
                  rcases htv3 with rfl | ⟨_, _, _, rfl⟩
                  all_goals
                    go_wp2_with fail
                    go_region
                  all_goals
                    go_wp2_with fail
                    refine bodyPost_ret (v := .tuple #[.slice none 0 0, .pointer none, .agg #[.int .i64 code3, .int .i64 at3]]) (by simp [results, Tryz.results42, go_sem, s0, s1]) rfl (.inr ⟨?_, ⟨_, _, rfl, unhide Hc3⟩, by rw [unhide HRB]; first | exact Dd | exact D5⟩)
                    exact unhide HF (by rw [ckStep, unhide HCD, Option.bind_some]; exact unhide HGN (by have := unhide HO3; cases hq : tyE ts e3 with | none => rfl | some t => rw [hq] at this; cases this))
            · have et1 : (t2 != 1) = true := bne_iff_ne.2 ht1
              have HQ := hide (unhide HF (by rw [ckStep, unhide HCF, ckE_wrong hk1 ht1]; rfl))
              clear hk1 ht1
              have XD := X2.below (Below.refl _ _).drew
              obtain ⟨r9a0, r9a1⟩ := row2 X2.R
              have rf9a := fun j => X2.R.frozen j
              have rg9a := fun j => (X2.R.set 0 (.int .i64 9)).frozen j
              obtain ⟨s9a0, s9a1⟩ := row2 ((X2.R.set 0 (.int .i64 9)).set 1 (.int .i64 mm))
              obtain ⟨rd0, rd1⟩ := row2 XD.R
              have rdf := fun j => XD.R.frozen j
              have rdg := fun j => (XD.R.set 0 (.int .i64 9)).frozen j
              obtain ⟨sd0, sd1⟩ := row2 ((XD.R.set 0 (.int .i64 9)).set 1 (.int .i64 mm))
              obtain ⟨ud0, ud1, ud2, ud3, udf⟩ := row4' XD.S
              have D9a := (X2.low.setCell (p := ⟨rb, 0, none⟩) (Nat.le_refl rb) (.int .i64 9)).setCell (p := ⟨rb, 1, none⟩) (Nat.le_refl rb) (.int .i64 mm)
              have Dd := (XD.low.setCell (p := ⟨rb, 0, none⟩) (Nat.le_refl rb) (.int .i64 9)).setCell (p := ⟨rb, 1, none⟩) (Nat.le_refl rb) (.int .i64 mm)
              go_wp2_with fail
              go_region
              all_goals
                go_wp2_with fail
                refine bodyPost_ret (v := .tuple #[.slice none 0 0, .pointer none, .agg #[.int .i64 9, .int .i64 mm]]) (by simp [results, Tryz.results42, go_sem, s9a0, s9a1]) rfl (.inr ⟨?_, ⟨_, _, rfl, by decide⟩, by rw [unhide HRB]; first | exact Dd | exact D9a⟩)
                exact unhide HQ
        · have F2 := Z0.F.below b2 Z0.ord.2.2.1
          have R2 := Z0.R.below b2 (by have := Z0.ord; omega)
          have D2 := Z0.low.trans (b2.mono (by have := Z0.ord; omega))
          have ec2 : (code2 != 0) = true := bne_iff_ne.2 hc2
          have Hc2 := hide hc2
          have HO2 := hide ho2
          clear hc2 ho2
          have hrf : rb ≠ fb := by have := Z0.ord; omega
          obtain ⟨p0, p1⟩ := row2 F2
          have f0 := fun j => F2.frozen j
          have f1 := fun j => (F2.set 0 (.int .i64 code2)).frozen j
          have F3 := (F2.set 0 (.int .i64 code2)).set 1 (.int .i64 at2)
          have R3 := (R2.setFar (p := ⟨fb, 0, none⟩) hrf (.int .i64 code2)).setFar (p := ⟨fb, 1, none⟩) hrf (.int .i64 at2)
          have D3 := (D2.setCell (p := ⟨fb, 0, none⟩) (by have := Z0.ord; show rb ≤ fb; omega) (.int .i64 code2)).setCell (p := ⟨fb, 1, none⟩) (by have := Z0.ord; show rb ≤ fb; omega) (.int .i64 at2)
          obtain ⟨q0, q1⟩ := row2 F3
          obtain ⟨r0, r1⟩ := row2 R3
          have rf := fun j => R3.frozen j
          have R4 := R3.set 0 (.int .i64 code2)
          have rg := fun j => R4.frozen j
          have R5 := R4.set 1 (.int .i64 at2)
          obtain ⟨s0, s1⟩ := row2 R5
          have D5 := (D3.setCell (p := ⟨rb, 0, none⟩) (Nat.le_refl rb) (.int .i64 code2)).setCell (p := ⟨rb, 1, none⟩) (Nat.le_refl rb) (.int .i64 at2)
          have FD := F3.after (Below.refl _ _).drew (Nat.le_refl _)
          have RD := R3.after (Below.refl _ _).drew (Nat.le_refl _)
          obtain ⟨qd0, qd1⟩ := row2 FD
          obtain ⟨rd0, rd1⟩ := row2 RD
          have rdf := fun j => RD.frozen j
          have rdg := fun j => (RD.set 0 (.int .i64 code2)).frozen j
          obtain ⟨sd0, sd1⟩ := row2 ((RD.set 0 (.int .i64 code2)).set 1 (.int .i64 at2))
          have Dd := (D3.drew.setCell (p := ⟨rb, 0, none⟩) (Nat.le_refl rb) (.int .i64 code2)).setCell (p := ⟨rb, 1, none⟩) (Nat.le_refl rb) (.int .i64 at2)
          dsimp only
          rcases htv2 with rfl | ⟨_, _, _, rfl⟩
          all_goals
            go_wp2_with fail
            go_region
          all_goals
            go_wp2_with fail
            refine bodyPost_ret (v := .tuple #[.slice none 0 0, .pointer none, .agg #[.int .i64 code2, .int .i64 at2]]) (by simp [results, Tryz.results42, go_sem, s0, s1]) rfl (.inr ⟨?_, ⟨_, _, rfl, unhide Hc2⟩, by rw [unhide HRB]; first | exact Dd | exact D5⟩)
            exact unhide HF (by rw [ckStep, unhide HCE, show tyE ts e = none by (have := unhide HO2; cases hq : tyE ts e with | none => rfl | some t => rw [hq] at this; cases this), ckE_none]; rfl)
    · have e : k = m := by omega
      subst e
      have HX := hide (show ckAll Es (attN, [], []) L = some (attN ++ ns, ts, tt) by rw [← (unhide HA).1, ← unhide HL, List.take_length])
      obtain ⟨p0, p1⟩ := row2 R1
      have f0 := fun j => R1.frozen j
      have R3 := R1.set 0 (.int .i64 0)
      have f1 := fun j => R3.frozen j
      have R4 := R3.set 1 (.int .i64 0)
      have s0 : ((wr.setCell ⟨rb, 0, none⟩ (.int .i64 0)).setCell ⟨rb, 1, none⟩ (.int .i64 0)).cell? ⟨rb, 0, none⟩ = some (.int .i64 0) := R4.cell 0
      have s1 : ((wr.setCell ⟨rb, 0, none⟩ (.int .i64 0)).setCell ⟨rb, 1, none⟩ (.int .i64 0)).cell? ⟨rb, 1, none⟩ = some (.int .i64 0) := R4.cell 1
      go_wp2_with fail
      refine bodyPost_ret (v := .tuple #[.slice xv tt.length cv, .pointer (some ⟨lb, 0, none⟩), .agg #[.int .i64 0, .int .i64 0]]) (by simp [results, Tryz.results42, go_sem, s0, s1]) rfl (.inl ⟨B, lb, ns, ts, tt, nv, lv, _, unhide HX, rfl, ?_, ?_, ?_⟩)
      · exact (M1.set ⟨rb, 0, none⟩ _ (by show rb < B; omega) (by show rb ≠ lb; omega)).set ⟨rb, 1, none⟩ _ (by show rb < B; omega) (by show rb ≠ lb; omega)
      · rw [unhide HRB]; exact (unhide HZB).1
      · rw [unhide HRB]
        exact (D1.setCell (p := ⟨rb, 0, none⟩) (Nat.le_refl rb) _).setCell (p := ⟨rb, 1, none⟩) (Nat.le_refl rb) _

end Go.Proofs.YtpbopjgmiaoomaaGreatDoor

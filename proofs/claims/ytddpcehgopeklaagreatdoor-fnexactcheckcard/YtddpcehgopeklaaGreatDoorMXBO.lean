/-
  EDG, ECS. Own work.
-/
import Derived.Test.YtddpcehgopeklaaGreatDoorMXBN
import Derived.Test.YtddpcehgopeklaaGreatDoorMXAU
import Derived.Test.YtddpcehgopeklaaGreatDoorECR
namespace Go.Proofs.YtddpcehgopeklaaGreatDoor
open Go.RowKit
set_option linter.unusedVariables false

set_option maxRecDepth 100000 in
set_option maxHeartbeats 6400000 in
theorem l3check_anyX (a b : Option Addr) (n c m d : Nat) (N : List Nd) (L : List St) (hU : ∀ x ∈ N, fieldsB x = true) (w0 : World) (hN : Nds w0 a n c N) (hL : Sts w0 b m d L) (Es : List Ex) (hEl : Es.length = n) (hE : ∀ j, (h : j < Es.length) → IsT N j Es[j]) (hn : n ≤ 4000) (hm : m ≤ 600) (hsp : spansX Es L) (hcn : cntL Es L ≤ 4000) :
    Calls Tryz.prog 17 #[.slice a n c, .slice b m d] w0 (CkM (allS Es (attD, [], []) L) w0) := by
  obtain ⟨ii, hii, ez0, ez1, ez2⟩ := info_parts infoI
  obtain ⟨si, hsi, sz0, sz1, sz2⟩ := info_parts infoS
  have HT := hide (fun (lb : Nat) (ns : List ByteArray) (ts tt : List Int) (nv lv tv : Value) => tree_anyX a n c N hU w0 hN (w0.heap.size + 3) (by omega) Es hEl hE hn lb ns ts tt nv lv tv)
  have HSP := hide hsp
  have HPS := hide (show ∀ (mm : Nat) (e : Ex), Es[mm]? = some e → e.pos = mm from fun mm e h => by obtain ⟨hl, hh⟩ := List.getElem?_eq_some_iff.1 h; rw [← hh]; exact (hE mm hl).pos)
  have HCN := hide hcn
  have HL := hide hL.len
  have R0 := ((Row.new w0 #[.int .i64 0, .int .i64 0] 33).alloc (.cells #[.slice none 0 0, .slice none 0 0] 76)).alloc (.cells #[.int .i64 0, .int .i64 0] 33)
  have L0 := (Row.new (w0.alloc (.cells #[.int .i64 0, .int .i64 0] 33)) #[.slice none 0 0, .slice none 0 0] 76).alloc (.cells #[.int .i64 0, .int .i64 0] 33)
  have F0 := Row.new ((w0.alloc (.cells #[.int .i64 0, .int .i64 0] 33)).alloc (.cells #[.slice none 0 0, .slice none 0 0] 76)) #[.int .i64 0, .int .i64 0] 33
  have B0 := ((((Below.refl w0.heap.size w0).alloc (Nat.le_refl _) (.cells #[.int .i64 0, .int .i64 0] 33)).alloc (by simp) (.cells #[.slice none 0 0, .slice none 0 0] 76)).alloc (by simp; omega) (.cells #[.int .i64 0, .int .i64 0] 33))
  have z0 : (((w0.alloc (.cells #[.int .i64 0, .int .i64 0] 33)).alloc (.cells #[.slice none 0 0, .slice none 0 0] 76)).alloc (.cells #[.int .i64 0, .int .i64 0] 33)).heap.size = w0.heap.size + 3 := by simp
  simp only [World.size_alloc] at L0 F0
  clear hU hN hE hEl hsp hcn
  go_enter Tryz.func17, Tryz.ntmps17
  go_wp2_with fail
  generalize (((w0.alloc (.cells #[.int .i64 0, .int .i64 0] 33)).alloc (.cells #[.slice none 0 0, .slice none 0 0] 76)).alloc (.cells #[.int .i64 0, .int .i64 0] 33)) = W1 at R0 L0 F0 B0 z0 ⊢
  have ORD : w0.heap.size < w0.heap.size + 1 ∧ w0.heap.size + 1 < w0.heap.size + 1 + 1 ∧ w0.heap.size + 1 + 1 < w0.heap.size + 3 := by omega
  have M0 : Lm (w0.heap.size + 3) (w0.heap.size + 1) [] [] [] (.slice none 0 0) (.slice none 0 0) (.slice none 0 0) W1 := ⟨L0, World.ownsRow_nil _ _ _ _, World.ownsRow_nil _ _ _ _, World.ownsRow_nil _ _ _ _, by omega, fun q h => (by cases h)⟩
  clear L0
  generalize hlb : w0.heap.size + 1 = lb at ORD M0 F0 ⊢
  generalize hfb : lb + 1 = fb at ORD F0 ⊢
  generalize hBB : w0.heap.size + 3 = B at ORD M0 HT z0 ⊢
  generalize hrb : w0.heap.size = rb at ORD R0 B0 ⊢
  have HRB := hide hrb
  have HZB := hide (show rb ≤ lb ∧ w0.heap.size ≤ B by omega)
  clear hlb hfb hBB hrb
  go_loopw [8, 17] (fun v i wr => ∃ (k : Nat) (ns : List ByteArray) (ts tt : List Int) (nv lv : Value) (fc fa : Int), k ≤ m ∧ i = .int .i64 k ∧ Hid (allS Es (attD, [], []) (L.take k) = .ok (dOf ns ts, ts, tt) ∧ ns.length = ts.length) ∧ Lm B lb ns ts tt nv lv v wr ∧ Row wr fb #[.int .i64 fc, .int .i64 fa] 33 ∧ Row wr rb #[.int .i64 0, .int .i64 0] 33 ∧ Below rb w0 wr ∧ B ≤ wr.heap.size) (fun _ i _ => m - (intOf i).toNat)
  case atStart => exact ⟨0, [], [], [], _, _, 0, 0, Nat.zero_le _, rfl, hide ⟨by rw [dOf_nil]; rfl, rfl⟩, M0, F0, R0, B0, by omega⟩
  case round =>
    obtain ⟨k, ns, ts, tt, nv, lv, fc, fa, hk, rfl, HA, M1, F1, R1, D1, hBr⟩ := hrel
    obtain ⟨xv, cv, rfl, _⟩ := owns_form2 M1.types
    by_cases hlt : k < m

    · have ilt : (k : Int) < (m : Int) := by omega
      have hkl : k < L.length := by rw [unhide HL]; exact hlt
      have hrb := unhide HRB
      obtain ⟨bs, os, rfl, hbl, c0', c1', c2', c3'⟩ := hL.cells k hkl
      have c0 := (D1.cell (p := ⟨bs, os + k * 4, none⟩) (by show bs < rb; omega)).trans c0'
      have c1 := (D1.cell (p := ⟨bs, os + k * 4 + 1, none⟩) (by show bs < rb; omega)).trans c1'
      have c2 := (D1.cell (p := ⟨bs, os + k * 4 + 2, none⟩) (by show bs < rb; omega)).trans c2'
      have c3 := (D1.cell (p := ⟨bs, os + k * 4 + 3, none⟩) (by show bs < rb; omega)).trans c3'
      have hsz := hL.sizes _ (List.getElem_mem hkl)
      clear c0' c1' c2' c3' hbl
      obtain ⟨l1, l2, l3⟩ := allS_len (unhide HA).1
      have room := cntL_room Es L k hkl
      have hin : ∀ d ∈ dOf ns ts, 1 ≤ d.typ ∧ d.typ ≤ 4 := l3 attD_wst
      have l1' : tt.length = cntL Es (L.take k) := by simpa using l1
      have l2' : ts.length ≤ k := by rw [List.length_take] at l2; simp at l2; omega
      obtain ⟨sp1, sp2⟩ := unhide HSP k hkl
      rw [← l1'] at sp1 sp2 room
      have HS := hide (show ∀ st2, stepS Es (dOf ns ts, ts, tt) L[k] = .ok st2 → allS Es (attD, [], []) (L.take (k + 1)) = .ok st2 from fun st2 e => by rw [List.take_succ_eq_append_getElem hkl, allS_snoc, (unhide HA).1]; exact e)
      have HF := hide (show ∀ f, stepS Es (dOf ns ts, ts, tt) L[k] = .error f → allS Es (attD, [], []) L = .error f from fun f e => allS_error Es L _ (k + 1) (by rw [List.take_succ_eq_append_getElem hkl, allS_snoc, (unhide HA).1]; exact e))
      have Hlt := hide hlt
      have Hns := hide (unhide HA).2
      have hcnt := unhide HCN
      have HRM := hide (show tt.length + (cntP Es L[k].cond + cntP Es L[k].grant) ≤ 4000 by omega)
      have HTS := hide (show ts.length ≤ 600 by omega)
      have HIN := hide hin
      clear l1 l2 l3 l1' l2' room hin hcnt HA hlt hrb
      generalize L[k] = s at c0 c1 c2 c3 hsz sp1 sp2 HS HF HRM
      clear hkl
      obtain ⟨kd, nm, cd, gr⟩ := s
      dsimp only at c0 c1 c2 c3 hsz sp1 sp2 HRM
      have Z0 : Ls B rb lb fb wr.heap.size ns ts tt nv lv (.slice xv tt.length cv) #[.int .i64 kd, .string nm, .int .i64 cd, .int .i64 gr] fc fa w0 (wr.alloc (.cells #[.int .i64 kd, .string nm, .int .i64 cd, .int .i64 gr] 77)) := ⟨M1.below ((Below.refl _ _).alloc (Nat.le_refl _) _), F1.alloc _, R1.alloc _, Row.new wr _ _, D1.alloc (by omega) _, ⟨ORD.1, ORD.2.1, ORD.2.2, hBr⟩⟩
      have hsb : B ≤ wr.heap.size := hBr
      clear M1 F1 R1 D1
      obtain ⟨z0, z1, z2, z3, zf⟩ := row4' Z0.S

      rcases sp1 with hc | ⟨mm, e, hc, he, hp, hsn⟩
      · subst hc
        have HCD := hide (show condS Es (dOf ns ts, ts, tt) ⟨kd, nm, -1, gr⟩ = .ok (dOf ns ts, ts, tt) from rfl)
        have HNS := Hns
        have HTR := hide (show tt.length + cntP Es gr ≤ 4000 by have := unhide HRM; omega)
        have HINN := HIN
        have HTSN := hide (show ts.length ≤ 601 by have := unhide HTS; omega)
        rw [show cntP Es (-1) = 0 from rfl, Nat.add_zero] at sp2
        obtain ⟨cd, hcd⟩ : ∃ cd : Int, cd = -1 := ⟨_, rfl⟩
        rcases sp2 with hg | ⟨mm3, e3, hg, he3, hp3, hs3⟩
        · subst hg
          have HNN : (ns).length = (ts).length := unhide HNS
          go_wp2_with fail
          go_roundw
          case rel => exact ⟨k + 1, ns, ts, tt, nv, lv, _, _, unhide Hlt, by go_num, hide ⟨unhide HS _ (by rw [stepS, unhide HCD]; exact grantS_none), HNN⟩, Z0.M, Z0.F, Z0.R, Z0.low, Z0.sizeX⟩
          case measure => have := unhide Hlt; simp [intOf]; omega
        · subst hg
          have HC3 := hide (unhide HT lb ns ts tt nv lv (.slice xv tt.length cv) (unhide HINN) (unhide HNS) (by have := unhide HTSN; omega) (by have := unhide HRM; have := unhide HTR; omega) mm3 e3 he3 hp3 hs3)
          have HGN := hide (show ∀ f, tyX (dOf ns ts) e3 = .error f → grantS Es (dOf ns ts, ts, tt) ⟨kd, nm, -1, mm3⟩ = .error f from fun f h => by rw [grantS_at he3]; show whenX 4 _ _ _ _ (tyX (dOf ns ts) e3) _ = _; rw [h]; rfl)
          have HG0 := hide (show ∀ t, tyX (dOf ns ts) e3 = .ok t → t ≠ 4 → grantS Es (dOf ns ts, ts, tt) ⟨kd, nm, -1, mm3⟩ = .error (9, (mm3 : Int)) from fun t h h4 => by rw [grantS_at he3]; show whenX 4 _ _ _ _ (tyX (dOf ns ts) e3) _ = _; rw [h, unhide HPS mm3 e3 he3]; exact if_neg h4)
          have HG1 := hide (show tyX (dOf ns ts) e3 = .ok 4 → grantS Es (dOf ns ts, ts, tt) ⟨kd, nm, -1, mm3⟩ = .ok (dOf ns ts, ts, tt ++ tysX (dOf ns ts) e3) from fun h => by rw [grantS_at he3]; show whenX 4 _ _ _ _ (tyX (dOf ns ts) e3) _ = _; rw [h]; exact whenX_hit)
          have ig3 : (0 : Int) ≤ (mm3 : Int) := by omega
          have im3 : mm3 ≤ 4000 := by have := unhide HRM; have := unhide HTR; have := cntP_at (k := (mm3 : Int)) rfl he3; omega
          clear he3 hs3
          go_wp2_with fail
          refine (unhide HC3 _ (by rw [unhide HRB]; exact Z0.low) Z0.M Z0.sizeX).mono ?_
          rintro r w3 (⟨ys3, tv3, ho3, rfl, O3, K3, b3⟩ | ⟨⟨code3, at3⟩, tv3, ho3, rfl, htv3, hc3, b3⟩)
          · have Y3 := Z0.tree O3 K3 b3
            obtain ⟨xt3, ct3, rfl, _⟩ := owns_form2 O3
            have HO3 := hide ho3
            clear O3 K3 ho3
            obtain ⟨tt3, htt3⟩ : ∃ l, l = tt ++ ys3 := ⟨_, rfl⟩
            rw [← htt3] at Y3 ⊢
            have HTT3 := hide htt3
            clear htt3
            obtain ⟨p30, p31⟩ := row2 Y3.F
            have fz3 := fun j => Y3.F.frozen j
            have fy3 := fun j => (Y3.F.set 0 (.int .i64 0)).frozen j
            have X3 := Y3.fault 0 0
            obtain ⟨q30, q31⟩ := row2 X3.F
            obtain ⟨u30, u31, u32, u33, uf3⟩ := row4' X3.S
            dsimp only
            obtain ⟨tg3, ht3, hy3⟩ := tryX_ok (unhide HO3)
            obtain ⟨gx, rfl, gc, gl⟩ := X3.M.readX (i := mm3) (t := tg3) (by rw [unhide HTT3, hy3]; exact tysX_at hp3 ht3)
            have HY3 := hide hy3
            have Ht3 := hide ht3
            clear hy3 ht3
            by_cases hq3 : tg3 = 4
            · have HST := hide (unhide HG1 (by rw [← hq3]; exact unhide Ht3))
              have HNN : (ns).length = (ts).length := unhide HNS
              have eq3 : (tg3 != 4) = false := by rw [hq3]; rfl
              clear hq3
              go_wp2_with fail
              go_roundw
              case rel => exact ⟨k + 1, ns, ts, tt3, nv, lv, _, _, unhide Hlt, by go_num, hide ⟨unhide HS _ (by rw [stepS, unhide HCD, unhide HTT3, unhide HY3]; exact unhide HST), HNN⟩, X3.M, X3.F, X3.R, X3.low, X3.sizeX⟩
              case measure => have := unhide Hlt; simp [intOf]; omega
            · have ht3 := unhide Ht3
              have eq3 : (tg3 != 4) = true := bne_iff_ne.2 hq3
              have HQ := hide (unhide HF (9, (mm3 : Int)) (by rw [stepS, unhide HCD]; exact unhide HG0 tg3 ht3 hq3))
              clear hq3 ht3
              have XD := X3.below (Below.refl _ _).drew
              obtain ⟨r3f0, r3f1⟩ := row2 X3.R
              have rf3f := fun j => X3.R.frozen j
              have rg3f := fun j => (X3.R.set 0 (.int .i64 9)).frozen j
              obtain ⟨s3f0, s3f1⟩ := row2 ((X3.R.set 0 (.int .i64 9)).set 1 (.int .i64 mm3))
              obtain ⟨rd0, rd1⟩ := row2 XD.R
              have rdf := fun j => XD.R.frozen j
              have rdg := fun j => (XD.R.set 0 (.int .i64 9)).frozen j
              obtain ⟨sd0, sd1⟩ := row2 ((XD.R.set 0 (.int .i64 9)).set 1 (.int .i64 mm3))
              obtain ⟨ud0, ud1, ud2, ud3, udf⟩ := row4' XD.S
              have D3f := (X3.low.setCell (p := ⟨rb, 0, none⟩) (Nat.le_refl rb) (.int .i64 9)).setCell (p := ⟨rb, 1, none⟩) (Nat.le_refl rb) (.int .i64 mm3)
              have Dd := (XD.low.setCell (p := ⟨rb, 0, none⟩) (Nat.le_refl rb) (.int .i64 9)).setCell (p := ⟨rb, 1, none⟩) (Nat.le_refl rb) (.int .i64 mm3)
              go_wp2_with fail
              go_region
              all_goals
                go_wp2_with fail
                refine bodyPost_ret (v := .tuple #[.slice none 0 0, .pointer none, .agg #[.int .i64 9, .int .i64 mm3]]) (by simp [results, Tryz.results17, go_sem, s3f0, s3f1]) rfl (.inr ⟨(9, (mm3 : Int)), ?_, rfl, (by show (9 : Int) ≠ 0; decide), by rw [unhide HRB]; first | exact Dd | exact D3f⟩)
                exact unhide HQ
          · have F3 := Z0.F.below b3 Z0.ord.2.2.1
            have R3 := Z0.R.below b3 (by have := Z0.ord; omega)
            have D3 := Z0.low.trans (b3.mono (by have := Z0.ord; omega))
            have ec3 : (code3 != 0) = true := bne_iff_ne.2 hc3
            have Hc3 := hide hc3
            have HO3 := hide ho3
            clear hc3 ho3
            have hrf : rb ≠ fb := by have := Z0.ord; omega
            obtain ⟨p0, p1⟩ := row2 F3
            have f0 := fun j => F3.frozen j
            have f1 := fun j => (F3.set 0 (.int .i64 code3)).frozen j
            have F3 := (F3.set 0 (.int .i64 code3)).set 1 (.int .i64 at3)
            have R3 := (R3.setFar (p := ⟨fb, 0, none⟩) hrf (.int .i64 code3)).setFar (p := ⟨fb, 1, none⟩) hrf (.int .i64 at3)
            have D3 := (D3.setCell (p := ⟨fb, 0, none⟩) (by have := Z0.ord; show rb ≤ fb; omega) (.int .i64 code3)).setCell (p := ⟨fb, 1, none⟩) (by have := Z0.ord; show rb ≤ fb; omega) (.int .i64 at3)
            obtain ⟨q0, q1⟩ := row2 F3
            obtain ⟨r0, r1⟩ := row2 R3
            have rf := fun j => R3.frozen j
            have R4 := R3.set 0 (.int .i64 code3)
            have rg := fun j => R4.frozen j
            have R5 := R4.set 1 (.int .i64 at3)
            obtain ⟨s0, s1⟩ := row2 R5
            have D5 := (D3.setCell (p := ⟨rb, 0, none⟩) (Nat.le_refl rb) (.int .i64 code3)).setCell (p := ⟨rb, 1, none⟩) (Nat.le_refl rb) (.int .i64 at3)
            have FD := F3.after (Below.refl _ _).drew (Nat.le_refl _)
            have RD := R3.after (Below.refl _ _).drew (Nat.le_refl _)
            obtain ⟨qd0, qd1⟩ := row2 FD
            obtain ⟨rd0, rd1⟩ := row2 RD
            have rdf := fun j => RD.frozen j
            have rdg := fun j => (RD.set 0 (.int .i64 code3)).frozen j
            obtain ⟨sd0, sd1⟩ := row2 ((RD.set 0 (.int .i64 code3)).set 1 (.int .i64 at3))
            have Dd := (D3.drew.setCell (p := ⟨rb, 0, none⟩) (Nat.le_refl rb) (.int .i64 code3)).setCell (p := ⟨rb, 1, none⟩) (Nat.le_refl rb) (.int .i64 at3)
            dsimp only
            rcases htv3 with rfl | ⟨_, _, _, rfl⟩
            all_goals
              go_wp2_with fail
              go_region
            all_goals
              go_wp2_with fail
              refine bodyPost_ret (v := .tuple #[.slice none 0 0, .pointer none, .agg #[.int .i64 code3, .int .i64 at3]]) (by simp [results, Tryz.results17, go_sem, s0, s1]) rfl (.inr ⟨(code3, at3), ?_, rfl, unhide Hc3, by rw [unhide HRB]; first | exact Dd | exact D5⟩)
              exact unhide HF (code3, at3) (by rw [stepS, unhide HCD]; exact unhide HGN _ (tryX_err (unhide HO3)))
      · subst hc
        have HC2 := hide (unhide HT lb ns ts tt nv lv (.slice xv tt.length cv) (unhide HIN) (unhide Hns) (by have := unhide HTS; omega) (by have := unhide HRM; omega) mm e he hp hsn)
        have HCE := hide (show condS Es (dOf ns ts, ts, tt) ⟨kd, nm, mm, gr⟩ = treeC kd nm (dOf ns ts, ts, tt) mm (tyX (dOf ns ts) e) (tysX (dOf ns ts) e) by rw [condS_at he, unhide HPS mm e he])
        have HPc := hide (cntP_at (k := (mm : Int)) rfl he)
        rw [cntP_at (k := (mm : Int)) rfl he] at sp2
        have HNS0 := Hns
        have ic : (0 : Int) ≤ (mm : Int) := by omega
        have im : mm ≤ 4000 := by have := unhide HRM; have := unhide HPc; omega
        clear he hsn
        go_wp2_with fail
        refine (unhide HC2 _ (by rw [unhide HRB]; exact Z0.low) Z0.M Z0.sizeX).mono ?_
        rintro r w2 (⟨ys2, tv2, ho2, rfl, O2, K2, b2⟩ | ⟨⟨code2, at2⟩, tv2, ho2, rfl, htv2, hc2, b2⟩)
        · have Y2 := Z0.tree O2 K2 b2
          obtain ⟨xt2, ct2, rfl, _⟩ := owns_form2 O2
          have HO2 := hide ho2
          clear O2 K2 ho2
          obtain ⟨tt2, htt2⟩ : ∃ l, l = tt ++ ys2 := ⟨_, rfl⟩
          rw [← htt2] at Y2 ⊢
          have HTT2 := hide htt2
          clear htt2
          obtain ⟨p20, p21⟩ := row2 Y2.F
          have fz2 := fun j => Y2.F.frozen j
          have fy2 := fun j => (Y2.F.set 0 (.int .i64 0)).frozen j
          have X2 := Y2.fault 0 0
          obtain ⟨q20, q21⟩ := row2 X2.F
          obtain ⟨u20, u21, u22, u23, uf2⟩ := row4' X2.S
          dsimp only
          obtain ⟨t2, ht2, hy2⟩ := tryX_ok (unhide HO2)
          obtain ⟨gx2, rfl, gc2, gl2⟩ := X2.M.readX (i := mm) (t := t2) (by rw [unhide HTT2, hy2]; exact tysX_at hp ht2)
          have hln2 : tt.length + e.cnt = tt2.length := by rw [unhide HTT2, List.length_append, hy2, tysX_len]
          rw [hln2] at sp2
          have HTR := hide (show tt2.length + cntP Es gr ≤ 4000 by have := unhide HRM; have := unhide HPc; omega)
          have HY2 := hide hy2
          have HTY := hide (tyX_in (unhide HIN) e t2 ht2)
          have HCF := hide (show condS Es (dOf ns ts, ts, tt) ⟨kd, nm, mm, gr⟩ = treeC kd nm (dOf ns ts, ts, tt) mm (.ok t2) ys2 by rw [unhide HCE, ht2, hy2])
          clear hy2 ht2 hln2
          by_cases hk1 : kd = 1
          · subst hk1
            by_cases hm1 : nm ∈ (attN : List ByteArray)
            · have fp := (findI_pos nm attN 0 (Int.le_refl 0)).2 hm1
              have HQ := hide (unhide HF (8, (mm : Int)) (by rw [stepS, unhide HCF, ckX_again (fnd_in1 hm1)]; rfl))
              clear hm1
              go_wp2_with fail
              refine (l3attr_any _ _).mono ?_
              rintro r w4 ⟨rfl, b4⟩
              have X4 := X2.below b4
              obtain ⟨v40, v41, v42, v43, vf4⟩ := row4' X4.S
              generalize findI nm attN 0 = fi at fp ⊢
              dsimp only
              have XD := X4.below (Below.refl _ _).drew
              obtain ⟨r8a0, r8a1⟩ := row2 X4.R
              have rf8a := fun j => X4.R.frozen j
              have rg8a := fun j => (X4.R.set 0 (.int .i64 8)).frozen j
              obtain ⟨s8a0, s8a1⟩ := row2 ((X4.R.set 0 (.int .i64 8)).set 1 (.int .i64 mm))
              obtain ⟨rd0, rd1⟩ := row2 XD.R
              have rdf := fun j => XD.R.frozen j
              have rdg := fun j => (XD.R.set 0 (.int .i64 8)).frozen j
              obtain ⟨sd0, sd1⟩ := row2 ((XD.R.set 0 (.int .i64 8)).set 1 (.int .i64 mm))
              obtain ⟨ud0, ud1, ud2, ud3, udf⟩ := row4' XD.S
              have D8a := (X4.low.setCell (p := ⟨rb, 0, none⟩) (Nat.le_refl rb) (.int .i64 8)).setCell (p := ⟨rb, 1, none⟩) (Nat.le_refl rb) (.int .i64 mm)
              have Dd := (XD.low.setCell (p := ⟨rb, 0, none⟩) (Nat.le_refl rb) (.int .i64 8)).setCell (p := ⟨rb, 1, none⟩) (Nat.le_refl rb) (.int .i64 mm)
              go_wp2_with fail
              go_region
              all_goals
                go_wp2_with fail
                refine bodyPost_ret (v := .tuple #[.slice none 0 0, .pointer none, .agg #[.int .i64 8, .int .i64 mm]]) (by simp [results, Tryz.results17, go_sem, s8a0, s8a1]) rfl (.inr ⟨(8, (mm : Int)), ?_, rfl, (by show (8 : Int) ≠ 0; decide), by rw [unhide HRB]; first | exact Dd | exact D8a⟩)
                exact unhide HQ
            · have fp : ¬ (0 ≤ findI nm attN 0) := fun h => hm1 ((findI_pos nm attN 0 (Int.le_refl 0)).1 h)
              obtain ⟨xn, cn, rfl, _⟩ := owns_form2 X2.M.names
              by_cases hm2 : nm ∈ ns
              · have fq := (findI_pos nm ns 0 (Int.le_refl 0)).2 hm2
                have HQ := hide (unhide HF (8, (mm : Int)) (by rw [stepS, unhide HCF, ckX_again (fnd_in2 (unhide HNS0) hm2)]; rfl))
                clear hm1 hm2
                go_wp2_with fail
                refine (l3attr_any _ _).mono ?_
                rintro r w4 ⟨rfl, b4⟩
                have X4 := X2.below b4
                obtain ⟨v40, v41, v42, v43, vf4⟩ := row4' X4.S
                generalize findI nm attN 0 = fi at fp ⊢
                dsimp only
                go_wp2_with fail
                refine (find_any lb xn ns.length cn ns nm _ X4.M.nmsAtX.2 X4.M.row.lt rfl (by have := unhide HNS0; have := unhide HTS; omega) X4.M.nmsAtX.1).mono ?_
                rintro r w5 ⟨rfl, b5⟩
                have X5 := X4.below b5
                obtain ⟨v50, v51, v52, v53, vf5⟩ := row4' X5.S
                generalize findI nm ns 0 = fj at fq ⊢
                dsimp only
                have XD := X5.below (Below.refl _ _).drew
                obtain ⟨r8b0, r8b1⟩ := row2 X5.R
                have rf8b := fun j => X5.R.frozen j
                have rg8b := fun j => (X5.R.set 0 (.int .i64 8)).frozen j
                obtain ⟨s8b0, s8b1⟩ := row2 ((X5.R.set 0 (.int .i64 8)).set 1 (.int .i64 mm))
                obtain ⟨rd0, rd1⟩ := row2 XD.R
                have rdf := fun j => XD.R.frozen j
                have rdg := fun j => (XD.R.set 0 (.int .i64 8)).frozen j
                obtain ⟨sd0, sd1⟩ := row2 ((XD.R.set 0 (.int .i64 8)).set 1 (.int .i64 mm))
                obtain ⟨ud0, ud1, ud2, ud3, udf⟩ := row4' XD.S
                have D8b := (X5.low.setCell (p := ⟨rb, 0, none⟩) (Nat.le_refl rb) (.int .i64 8)).setCell (p := ⟨rb, 1, none⟩) (Nat.le_refl rb) (.int .i64 mm)
                have Dd := (XD.low.setCell (p := ⟨rb, 0, none⟩) (Nat.le_refl rb) (.int .i64 8)).setCell (p := ⟨rb, 1, none⟩) (Nat.le_refl rb) (.int .i64 mm)
                go_wp2_with fail
                go_region
                all_goals
                  go_wp2_with fail
                  refine bodyPost_ret (v := .tuple #[.slice none 0 0, .pointer none, .agg #[.int .i64 8, .int .i64 mm]]) (by simp [results, Tryz.results17, go_sem, s8b0, s8b1]) rfl (.inr ⟨(8, (mm : Int)), ?_, rfl, (by show (8 : Int) ≠ 0; decide), by rw [unhide HRB]; first | exact Dd | exact D8b⟩)
                  exact unhide HQ
              · have fq : ¬ (0 ≤ findI nm ns 0) := fun h => hm2 ((findI_pos nm ns 0 (Int.le_refl 0)).1 h)
                have HCD := hide ((unhide HCF).trans (ckX_let (st := (dOf ns ts, ts, tt)) (t := t2) (ys := ys2) (fnd_out (unhide HNS0) hm1 hm2)))
                clear hm1 hm2
                go_wp2_with fail
                refine (l3attr_any _ _).mono ?_
                rintro r w4 ⟨rfl, b4⟩
                have X4 := X2.below b4
                obtain ⟨v40, v41, v42, v43, vf4⟩ := row4' X4.S
                generalize findI nm attN 0 = fi at fp ⊢
                dsimp only
                go_wp2_with fail
                refine (find_any lb xn ns.length cn ns nm _ X4.M.nmsAtX.2 X4.M.row.lt rfl (by have := unhide HNS0; have := unhide HTS; omega) X4.M.nmsAtX.1).mono ?_
                rintro r w5 ⟨rfl, b5⟩
                have X5 := X4.below b5
                obtain ⟨v50, v51, v52, v53, vf5⟩ := row4' X5.S
                generalize findI nm ns 0 = fj at fq ⊢
                dsimp only
                obtain ⟨xl, cl, rfl, _⟩ := owns_form2 X5.M.lets
                obtain ⟨nn0, nn1⟩ := row2 X5.M.row
                have nf := fun j => X5.M.row.frozen j
                have XD := X5.below (Below.refl _ _).drew
                obtain ⟨nd0, nd1⟩ := row2 XD.M.row
                have ndf := fun j => XD.M.row.frozen j
                obtain ⟨vd0, vd1, vd2, vd3, vdf⟩ := row4' XD.S
                have hsz5 : B ≤ w5.heap.size := X5.sizeX
                have hnl : ns.length ≤ 1000 := by have := unhide HNS0; have := unhide HTS; omega
                have htl : ts.length ≤ 1000 := by have := unhide HTS; omega
                have hlb5 : lb < w5.heap.size := X5.M.row.lt
                have hrl : rb ≤ lb := by have := X5.ord; omega
                have hrB : rb ≤ B := by have := X5.ord; omega
                go_wp2_with fail
                have f4 : (w5.alloc (.cells #[.string nm] 9)).drew.frozen? ⟨lb, 0, none⟩ = false := (X5.M.row.alloc _).frozen 0
                have ow : (w5.alloc (.cells #[.string nm] 9)).drew.ownsRow B 9 1 (.slice xn ns.length cn) ns.length (ns.map Value.string) := (X5.M.names.alloc _).drew
                go_region_law (refine step_append_lies _ rfl _ _ 51 rfl B 9 si (.string ByteArray.empty) 1 16 Tryz.underlying51 hsi sz0 sz1 sz2 rfl (by decide) (.slice xn ns.length cn) ns.length (ns.map Value.string) rfl ow ⟨w5.heap.size, 0, none⟩ 1 1 [.string nm] rfl rfl (one_cell w5 _ _ _ rfl) (by intro u hu; simp at hu; subst hu; rfl) (by decide) (by unfold maxLen; omega) (by omega) (by simp; omega) _ rfl ?_; intro b1 c1 w6 O1 hgrow hat hlt6; have R6 : Row w6 lb #[.slice xn ns.length cn, .slice xl ts.length cl] 76 := ⟨(hgrow.block lb (by simp; omega) (fun e => own_ne_row X5.M.row X5.M.names (by decide) e.symm)).trans (X5.M.row.alloc (.cells #[.string nm] 9)).out⟩; have s6 : w6.cell? ⟨lb, 0, none⟩ = some (.slice xn ns.length cn) ∧ w6.frozen? ⟨lb, 0, none⟩ = false := ⟨R6.cell 0, R6.frozen 0⟩; obtain ⟨s60, s61⟩ := s6)
                all_goals
                  have hg2 : (w5.alloc (.cells #[.string nm] 9)).grownBy w6 (Value.slice xn ns.length cn).ownBlock := ⟨hgrow.os, hgrow.tape, hgrow.output, hgrow.size, hgrow.block⟩
                  obtain ⟨_, M6, K6, Z6⟩ := X5.M.pushN X5.sizeX O1 hg2 (hat.imp id (fun e => by rw [e]; show (w5.alloc _).heap.size = _; simp))
                  have b6 := (((Below.refl rb w5).alloc (by omega) (.cells #[.string nm] 9)).grown hg2 (by simp; omega) (fun q hq => by have := (X5.M.names.lt q hq).1; omega)).setCell (p := ⟨lb, 0, none⟩) hrl (.slice (some ⟨b1, 0, none⟩) (ns.length + 1) c1)
                  have X6 := X5.of_kept X5.M.names (by decide) (by decide) M6 K6 b6
                  clear hgrow hg2 hat O1 ow R6 M6 K6 b6 f4 s60 s61
                  generalize w6.setCell ⟨lb, 0, none⟩ (.slice (some ⟨b1, 0, none⟩) (ns.length + 1) c1) = W6 at X6 ⊢
                  obtain ⟨m60, m61⟩ := row2 X6.M.row
                  have mf := fun j => X6.M.row.frozen j
                  have hsz6 : B ≤ W6.heap.size := X6.sizeX
                  have hlb6 : lb < W6.heap.size := X6.M.row.lt
                  go_wp2_with (at_builtin; refine wpList_append_lies _ rfl _ _ 29 rfl B 3 ii (.int .i64 0) 1 8 Tryz.underlying29 hii ez0 ez1 ez2 rfl (by decide) _ _ _ rfl (World.ownsRow.alloc X6.M.lets _) ⟨W6.heap.size, 0, none⟩ 1 1 [.int .i64 t2] rfl rfl ?c1 ?c2 (by decide) ?c3 ?c4 ?c5 (W6.heap.size + 1) (by simp) ?_)
                  case c1 => exact one_cell _ _ _ _ (by simp)
                  case c2 => intro u hu; simp at hu; subst hu; rfl
                  case c3 => unfold maxLen; omega
                  case c4 => omega
                  case c5 => simp; omega
                  intro g7 cap7 w7 O7 hgrow hat hgl
                  obtain ⟨R7, M7, K7, Z7⟩ := X6.M.pushL X6.sizeX O7 hgrow hat
                  have b7 := (((Below.refl rb W6).alloc (by omega) (.cells #[.int .i64 t2] 3)).grown hgrow (by simp; omega) (fun q hq => by have := (X6.M.lets.lt q hq).1; omega)).setCell (p := ⟨lb, 1, none⟩) hrl (.slice (some ⟨g7, 0, none⟩) (ts.length + 1) cap7)
                  have X7 := X6.of_kept X6.M.lets (by decide) (by decide) M7 K7 b7
                  obtain ⟨m70, m71⟩ := row2 R7
                  have mf7 := fun j => R7.frozen j
                  obtain ⟨v70, v71, v72, v73, vf7⟩ := row4' X7.S
                  clear hgrow hat O7 M7 K7 b7
                  have HCE7 := hide (show condS Es (dOf ns ts, ts, tt) ⟨1, nm, mm, gr⟩ = .ok (dOf (ns ++ [nm]) (ts ++ [t2]), ts ++ [t2], tt2) by rw [unhide HCD, unhide HTT2, ← dOf_snoc (unhide HNS0)])
                  have HNS := hide (show (ns ++ [nm]).length = (ts ++ [t2]).length by rw [List.length_append, List.length_append, unhide HNS0]; rfl)
                  have HINN := hide (show ∀ d ∈ dOf (ns ++ [nm]) (ts ++ [t2]), 1 ≤ d.typ ∧ d.typ ≤ 4 from fun d h => by rw [← dOf_snoc (unhide HNS0)] at h; exact (List.mem_append.1 h).elim (unhide HIN d) (fun h => by simp at h; subst h; exact unhide HTY))
                  have HTSN := hide (show (ts ++ [t2]).length ≤ 601 by rw [List.length_append]; have := unhide HTS; simp; omega)
                  generalize ns ++ [nm] = ns7 at X7 HCE7 HNS HINN
                  generalize ts ++ [t2] = ts7 at X7 HCE7 HNS HINN HTSN
                  clear HCD
                  have HCD := HCE7
                  clear HCE7
                  rcases sp2 with hg | ⟨mm3, e3, hg, he3, hp3, hs3⟩
                  · subst hg
                    have HNN : (ns7).length = (ts7).length := unhide HNS
                    go_wp2_with fail
                    go_roundw
                    case rel => exact ⟨k + 1, ns7, ts7, tt2, (.slice (some ⟨b1, 0, none⟩) (ns.length + 1) c1), (.slice (some ⟨g7, 0, none⟩) (ts.length + 1) cap7), _, _, unhide Hlt, by go_num, hide ⟨unhide HS _ (by rw [stepS, unhide HCD]; exact grantS_none), HNN⟩, X7.M, X7.F, X7.R, X7.low, X7.sizeX⟩
                    case measure => have := unhide Hlt; simp [intOf]; omega
                  · subst hg
                    have HC3 := hide (unhide HT lb ns7 ts7 tt2 (.slice (some ⟨b1, 0, none⟩) (ns.length + 1) c1) (.slice (some ⟨g7, 0, none⟩) (ts.length + 1) cap7) (.slice (some ⟨gx2, 0, none⟩) tt2.length ct2) (unhide HINN) (unhide HNS) (by have := unhide HTSN; omega) (by have := unhide HRM; have := unhide HTR; omega) mm3 e3 he3 hp3 hs3)
                    have HGN := hide (show ∀ f, tyX (dOf ns7 ts7) e3 = .error f → grantS Es (dOf ns7 ts7, ts7, tt2) ⟨1, nm, mm, mm3⟩ = .error f from fun f h => by rw [grantS_at he3]; show whenX 4 _ _ _ _ (tyX (dOf ns7 ts7) e3) _ = _; rw [h]; rfl)
                    have HG0 := hide (show ∀ t, tyX (dOf ns7 ts7) e3 = .ok t → t ≠ 4 → grantS Es (dOf ns7 ts7, ts7, tt2) ⟨1, nm, mm, mm3⟩ = .error (9, (mm3 : Int)) from fun t h h4 => by rw [grantS_at he3]; show whenX 4 _ _ _ _ (tyX (dOf ns7 ts7) e3) _ = _; rw [h, unhide HPS mm3 e3 he3]; exact if_neg h4)
                    have HG1 := hide (show tyX (dOf ns7 ts7) e3 = .ok 4 → grantS Es (dOf ns7 ts7, ts7, tt2) ⟨1, nm, mm, mm3⟩ = .ok (dOf ns7 ts7, ts7, tt2 ++ tysX (dOf ns7 ts7) e3) from fun h => by rw [grantS_at he3]; show whenX 4 _ _ _ _ (tyX (dOf ns7 ts7) e3) _ = _; rw [h]; exact whenX_hit)
                    have ig3 : (0 : Int) ≤ (mm3 : Int) := by omega
                    have im3 : mm3 ≤ 4000 := by have := unhide HRM; have := unhide HTR; have := cntP_at (k := (mm3 : Int)) rfl he3; omega
                    clear he3 hs3
                    go_wp2_with fail
                    refine (unhide HC3 _ (by rw [unhide HRB]; exact X7.low) X7.M X7.sizeX).mono ?_
                    rintro r w3 (⟨ys3, tv3, ho3, rfl, O3, K3, b3⟩ | ⟨⟨code3, at3⟩, tv3, ho3, rfl, htv3, hc3, b3⟩)
                    · have Y3 := X7.tree O3 K3 b3
                      obtain ⟨xt3, ct3, rfl, _⟩ := owns_form2 O3
                      have HO3 := hide ho3
                      clear O3 K3 ho3
                      obtain ⟨tt3, htt3⟩ : ∃ l, l = tt2 ++ ys3 := ⟨_, rfl⟩
                      rw [← htt3] at Y3 ⊢
                      have HTT3 := hide htt3
                      clear htt3
                      obtain ⟨p30, p31⟩ := row2 Y3.F
                      have fz3 := fun j => Y3.F.frozen j
                      have fy3 := fun j => (Y3.F.set 0 (.int .i64 0)).frozen j
                      have X3 := Y3.fault 0 0
                      obtain ⟨q30, q31⟩ := row2 X3.F
                      obtain ⟨u30, u31, u32, u33, uf3⟩ := row4' X3.S
                      dsimp only
                      obtain ⟨tg3, ht3, hy3⟩ := tryX_ok (unhide HO3)
                      obtain ⟨gx, rfl, gc, gl⟩ := X3.M.readX (i := mm3) (t := tg3) (by rw [unhide HTT3, hy3]; exact tysX_at hp3 ht3)
                      have HY3 := hide hy3
                      have Ht3 := hide ht3
                      clear hy3 ht3
                      by_cases hq3 : tg3 = 4
                      · have HST := hide (unhide HG1 (by rw [← hq3]; exact unhide Ht3))
                        have HNN : (ns7).length = (ts7).length := unhide HNS
                        have eq3 : (tg3 != 4) = false := by rw [hq3]; rfl
                        clear hq3
                        go_wp2_with fail
                        go_roundw
                        case rel => exact ⟨k + 1, ns7, ts7, tt3, (.slice (some ⟨b1, 0, none⟩) (ns.length + 1) c1), (.slice (some ⟨g7, 0, none⟩) (ts.length + 1) cap7), _, _, unhide Hlt, by go_num, hide ⟨unhide HS _ (by rw [stepS, unhide HCD, unhide HTT3, unhide HY3]; exact unhide HST), HNN⟩, X3.M, X3.F, X3.R, X3.low, X3.sizeX⟩
                        case measure => have := unhide Hlt; simp [intOf]; omega
                      · have ht3 := unhide Ht3
                        have eq3 : (tg3 != 4) = true := bne_iff_ne.2 hq3
                        have HQ := hide (unhide HF (9, (mm3 : Int)) (by rw [stepS, unhide HCD]; exact unhide HG0 tg3 ht3 hq3))
                        clear hq3 ht3
                        have XD := X3.below (Below.refl _ _).drew
                        obtain ⟨r3f0, r3f1⟩ := row2 X3.R
                        have rf3f := fun j => X3.R.frozen j
                        have rg3f := fun j => (X3.R.set 0 (.int .i64 9)).frozen j
                        obtain ⟨s3f0, s3f1⟩ := row2 ((X3.R.set 0 (.int .i64 9)).set 1 (.int .i64 mm3))
                        obtain ⟨rd0, rd1⟩ := row2 XD.R
                        have rdf := fun j => XD.R.frozen j
                        have rdg := fun j => (XD.R.set 0 (.int .i64 9)).frozen j
                        obtain ⟨sd0, sd1⟩ := row2 ((XD.R.set 0 (.int .i64 9)).set 1 (.int .i64 mm3))
                        obtain ⟨ud0, ud1, ud2, ud3, udf⟩ := row4' XD.S
                        have D3f := (X3.low.setCell (p := ⟨rb, 0, none⟩) (Nat.le_refl rb) (.int .i64 9)).setCell (p := ⟨rb, 1, none⟩) (Nat.le_refl rb) (.int .i64 mm3)
                        have Dd := (XD.low.setCell (p := ⟨rb, 0, none⟩) (Nat.le_refl rb) (.int .i64 9)).setCell (p := ⟨rb, 1, none⟩) (Nat.le_refl rb) (.int .i64 mm3)
                        go_wp2_with fail
                        go_region
                        all_goals
                          go_wp2_with fail
                          refine bodyPost_ret (v := .tuple #[.slice none 0 0, .pointer none, .agg #[.int .i64 9, .int .i64 mm3]]) (by simp [results, Tryz.results17, go_sem, s3f0, s3f1]) rfl (.inr ⟨(9, (mm3 : Int)), ?_, rfl, (by show (9 : Int) ≠ 0; decide), by rw [unhide HRB]; first | exact Dd | exact D3f⟩)
                          exact unhide HQ
                    · have F3 := X7.F.below b3 X7.ord.2.2.1
                      have R3 := X7.R.below b3 (by have := X7.ord; omega)
                      have D3 := X7.low.trans (b3.mono (by have := X7.ord; omega))
                      have ec3 : (code3 != 0) = true := bne_iff_ne.2 hc3
                      have Hc3 := hide hc3
                      have HO3 := hide ho3
                      clear hc3 ho3
                      have hrf : rb ≠ fb := by have := X7.ord; omega
                      obtain ⟨p0, p1⟩ := row2 F3
                      have f0 := fun j => F3.frozen j
                      have f1 := fun j => (F3.set 0 (.int .i64 code3)).frozen j
                      have F3 := (F3.set 0 (.int .i64 code3)).set 1 (.int .i64 at3)
                      have R3 := (R3.setFar (p := ⟨fb, 0, none⟩) hrf (.int .i64 code3)).setFar (p := ⟨fb, 1, none⟩) hrf (.int .i64 at3)
                      have D3 := (D3.setCell (p := ⟨fb, 0, none⟩) (by have := X7.ord; show rb ≤ fb; omega) (.int .i64 code3)).setCell (p := ⟨fb, 1, none⟩) (by have := X7.ord; show rb ≤ fb; omega) (.int .i64 at3)
                      obtain ⟨q0, q1⟩ := row2 F3
                      obtain ⟨r0, r1⟩ := row2 R3
                      have rf := fun j => R3.frozen j
                      have R4 := R3.set 0 (.int .i64 code3)
                      have rg := fun j => R4.frozen j
                      have R5 := R4.set 1 (.int .i64 at3)
                      obtain ⟨s0, s1⟩ := row2 R5
                      have D5 := (D3.setCell (p := ⟨rb, 0, none⟩) (Nat.le_refl rb) (.int .i64 code3)).setCell (p := ⟨rb, 1, none⟩) (Nat.le_refl rb) (.int .i64 at3)
                      have FD := F3.after (Below.refl _ _).drew (Nat.le_refl _)
                      have RD := R3.after (Below.refl _ _).drew (Nat.le_refl _)
                      obtain ⟨qd0, qd1⟩ := row2 FD
                      obtain ⟨rd0, rd1⟩ := row2 RD
                      have rdf := fun j => RD.frozen j
                      have rdg := fun j => (RD.set 0 (.int .i64 code3)).frozen j
                      obtain ⟨sd0, sd1⟩ := row2 ((RD.set 0 (.int .i64 code3)).set 1 (.int .i64 at3))
                      have Dd := (D3.drew.setCell (p := ⟨rb, 0, none⟩) (Nat.le_refl rb) (.int .i64 code3)).setCell (p := ⟨rb, 1, none⟩) (Nat.le_refl rb) (.int .i64 at3)
                      dsimp only
                      rcases htv3 with rfl | ⟨_, _, _, rfl⟩
                      all_goals
                        go_wp2_with fail
                        go_region
                      all_goals
                        go_wp2_with fail
                        refine bodyPost_ret (v := .tuple #[.slice none 0 0, .pointer none, .agg #[.int .i64 code3, .int .i64 at3]]) (by simp [results, Tryz.results17, go_sem, s0, s1]) rfl (.inr ⟨(code3, at3), ?_, rfl, unhide Hc3, by rw [unhide HRB]; first | exact Dd | exact D5⟩)
                        exact unhide HF (code3, at3) (by rw [stepS, unhide HCD]; exact unhide HGN _ (tryX_err (unhide HO3)))
          · have ek1 : (kd == 1) = false := beq_eq_false_iff_ne.2 hk1
            by_cases ht1 : t2 = 1
            · subst ht1
              have HCD := hide ((unhide HCF).trans (ckX_when (nm := nm) (st := (dOf ns ts, ts, tt)) (ys := ys2) hk1))
              have HCD2 := hide (show condS Es (dOf ns ts, ts, tt) ⟨kd, nm, mm, gr⟩ = .ok (dOf ns ts, ts, tt2) by rw [unhide HCD, unhide HTT2])
              have HNS := Hns
              have HINN := HIN
              have HTSN := hide (show ts.length ≤ 601 by have := unhide HTS; omega)
              clear hk1 HCD
              have HCD := HCD2
              clear HCD2
              rcases sp2 with hg | ⟨mm3, e3, hg, he3, hp3, hs3⟩
              · subst hg
                have HNN : (ns).length = (ts).length := unhide HNS
                go_wp2_with fail
                go_roundw
                case rel => exact ⟨k + 1, ns, ts, tt2, nv, lv, _, _, unhide Hlt, by go_num, hide ⟨unhide HS _ (by rw [stepS, unhide HCD]; exact grantS_none), HNN⟩, X2.M, X2.F, X2.R, X2.low, X2.sizeX⟩
                case measure => have := unhide Hlt; simp [intOf]; omega
              · subst hg
                have HC3 := hide (unhide HT lb ns ts tt2 nv lv (.slice (some ⟨gx2, 0, none⟩) tt2.length ct2) (unhide HINN) (unhide HNS) (by have := unhide HTSN; omega) (by have := unhide HRM; have := unhide HTR; omega) mm3 e3 he3 hp3 hs3)
                have HGN := hide (show ∀ f, tyX (dOf ns ts) e3 = .error f → grantS Es (dOf ns ts, ts, tt2) ⟨kd, nm, mm, mm3⟩ = .error f from fun f h => by rw [grantS_at he3]; show whenX 4 _ _ _ _ (tyX (dOf ns ts) e3) _ = _; rw [h]; rfl)
                have HG0 := hide (show ∀ t, tyX (dOf ns ts) e3 = .ok t → t ≠ 4 → grantS Es (dOf ns ts, ts, tt2) ⟨kd, nm, mm, mm3⟩ = .error (9, (mm3 : Int)) from fun t h h4 => by rw [grantS_at he3]; show whenX 4 _ _ _ _ (tyX (dOf ns ts) e3) _ = _; rw [h, unhide HPS mm3 e3 he3]; exact if_neg h4)
                have HG1 := hide (show tyX (dOf ns ts) e3 = .ok 4 → grantS Es (dOf ns ts, ts, tt2) ⟨kd, nm, mm, mm3⟩ = .ok (dOf ns ts, ts, tt2 ++ tysX (dOf ns ts) e3) from fun h => by rw [grantS_at he3]; show whenX 4 _ _ _ _ (tyX (dOf ns ts) e3) _ = _; rw [h]; exact whenX_hit)
                have ig3 : (0 : Int) ≤ (mm3 : Int) := by omega
                have im3 : mm3 ≤ 4000 := by have := unhide HRM; have := unhide HTR; have := cntP_at (k := (mm3 : Int)) rfl he3; omega
                clear he3 hs3
                go_wp2_with fail
                refine (unhide HC3 _ (by rw [unhide HRB]; exact X2.low) X2.M X2.sizeX).mono ?_
                rintro r w3 (⟨ys3, tv3, ho3, rfl, O3, K3, b3⟩ | ⟨⟨code3, at3⟩, tv3, ho3, rfl, htv3, hc3, b3⟩)
                · have Y3 := X2.tree O3 K3 b3
                  obtain ⟨xt3, ct3, rfl, _⟩ := owns_form2 O3
                  have HO3 := hide ho3
                  clear O3 K3 ho3
                  obtain ⟨tt3, htt3⟩ : ∃ l, l = tt2 ++ ys3 := ⟨_, rfl⟩
                  rw [← htt3] at Y3 ⊢
                  have HTT3 := hide htt3
                  clear htt3
                  obtain ⟨p30, p31⟩ := row2 Y3.F
                  have fz3 := fun j => Y3.F.frozen j
                  have fy3 := fun j => (Y3.F.set 0 (.int .i64 0)).frozen j
                  have X3 := Y3.fault 0 0
                  obtain ⟨q30, q31⟩ := row2 X3.F
                  obtain ⟨u30, u31, u32, u33, uf3⟩ := row4' X3.S
                  dsimp only
                  obtain ⟨tg3, ht3, hy3⟩ := tryX_ok (unhide HO3)
                  obtain ⟨gx, rfl, gc, gl⟩ := X3.M.readX (i := mm3) (t := tg3) (by rw [unhide HTT3, hy3]; exact tysX_at hp3 ht3)
                  have HY3 := hide hy3
                  have Ht3 := hide ht3
                  clear hy3 ht3
                  by_cases hq3 : tg3 = 4
                  · have HST := hide (unhide HG1 (by rw [← hq3]; exact unhide Ht3))
                    have HNN : (ns).length = (ts).length := unhide HNS
                    have eq3 : (tg3 != 4) = false := by rw [hq3]; rfl
                    clear hq3
                    go_wp2_with fail
                    go_roundw
                    case rel => exact ⟨k + 1, ns, ts, tt3, nv, lv, _, _, unhide Hlt, by go_num, hide ⟨unhide HS _ (by rw [stepS, unhide HCD, unhide HTT3, unhide HY3]; exact unhide HST), HNN⟩, X3.M, X3.F, X3.R, X3.low, X3.sizeX⟩
                    case measure => have := unhide Hlt; simp [intOf]; omega
                  · have ht3 := unhide Ht3
                    have eq3 : (tg3 != 4) = true := bne_iff_ne.2 hq3
                    have HQ := hide (unhide HF (9, (mm3 : Int)) (by rw [stepS, unhide HCD]; exact unhide HG0 tg3 ht3 hq3))
                    clear hq3 ht3
                    have XD := X3.below (Below.refl _ _).drew
                    obtain ⟨r3f0, r3f1⟩ := row2 X3.R
                    have rf3f := fun j => X3.R.frozen j
                    have rg3f := fun j => (X3.R.set 0 (.int .i64 9)).frozen j
                    obtain ⟨s3f0, s3f1⟩ := row2 ((X3.R.set 0 (.int .i64 9)).set 1 (.int .i64 mm3))
                    obtain ⟨rd0, rd1⟩ := row2 XD.R
                    have rdf := fun j => XD.R.frozen j
                    have rdg := fun j => (XD.R.set 0 (.int .i64 9)).frozen j
                    obtain ⟨sd0, sd1⟩ := row2 ((XD.R.set 0 (.int .i64 9)).set 1 (.int .i64 mm3))
                    obtain ⟨ud0, ud1, ud2, ud3, udf⟩ := row4' XD.S
                    have D3f := (X3.low.setCell (p := ⟨rb, 0, none⟩) (Nat.le_refl rb) (.int .i64 9)).setCell (p := ⟨rb, 1, none⟩) (Nat.le_refl rb) (.int .i64 mm3)
                    have Dd := (XD.low.setCell (p := ⟨rb, 0, none⟩) (Nat.le_refl rb) (.int .i64 9)).setCell (p := ⟨rb, 1, none⟩) (Nat.le_refl rb) (.int .i64 mm3)
                    go_wp2_with fail
                    go_region
                    all_goals
                      go_wp2_with fail
                      refine bodyPost_ret (v := .tuple #[.slice none 0 0, .pointer none, .agg #[.int .i64 9, .int .i64 mm3]]) (by simp [results, Tryz.results17, go_sem, s3f0, s3f1]) rfl (.inr ⟨(9, (mm3 : Int)), ?_, rfl, (by show (9 : Int) ≠ 0; decide), by rw [unhide HRB]; first | exact Dd | exact D3f⟩)
                      exact unhide HQ
                · have F3 := X2.F.below b3 X2.ord.2.2.1
                  have R3 := X2.R.below b3 (by have := X2.ord; omega)
                  have D3 := X2.low.trans (b3.mono (by have := X2.ord; omega))
                  have ec3 : (code3 != 0) = true := bne_iff_ne.2 hc3
                  have Hc3 := hide hc3
                  have HO3 := hide ho3
                  clear hc3 ho3
                  have hrf : rb ≠ fb := by have := X2.ord; omega
                  obtain ⟨p0, p1⟩ := row2 F3
                  have f0 := fun j => F3.frozen j
                  have f1 := fun j => (F3.set 0 (.int .i64 code3)).frozen j
                  have F3 := (F3.set 0 (.int .i64 code3)).set 1 (.int .i64 at3)
                  have R3 := (R3.setFar (p := ⟨fb, 0, none⟩) hrf (.int .i64 code3)).setFar (p := ⟨fb, 1, none⟩) hrf (.int .i64 at3)
                  have D3 := (D3.setCell (p := ⟨fb, 0, none⟩) (by have := X2.ord; show rb ≤ fb; omega) (.int .i64 code3)).setCell (p := ⟨fb, 1, none⟩) (by have := X2.ord; show rb ≤ fb; omega) (.int .i64 at3)
                  obtain ⟨q0, q1⟩ := row2 F3
                  obtain ⟨r0, r1⟩ := row2 R3
                  have rf := fun j => R3.frozen j
                  have R4 := R3.set 0 (.int .i64 code3)
                  have rg := fun j => R4.frozen j
                  have R5 := R4.set 1 (.int .i64 at3)
                  obtain ⟨s0, s1⟩ := row2 R5
                  have D5 := (D3.setCell (p := ⟨rb, 0, none⟩) (Nat.le_refl rb) (.int .i64 code3)).setCell (p := ⟨rb, 1, none⟩) (Nat.le_refl rb) (.int .i64 at3)
                  have FD := F3.after (Below.refl _ _).drew (Nat.le_refl _)
                  have RD := R3.after (Below.refl _ _).drew (Nat.le_refl _)
                  obtain ⟨qd0, qd1⟩ := row2 FD
                  obtain ⟨rd0, rd1⟩ := row2 RD
                  have rdf := fun j => RD.frozen j
                  have rdg := fun j => (RD.set 0 (.int .i64 code3)).frozen j
                  obtain ⟨sd0, sd1⟩ := row2 ((RD.set 0 (.int .i64 code3)).set 1 (.int .i64 at3))
                  have Dd := (D3.drew.setCell (p := ⟨rb, 0, none⟩) (Nat.le_refl rb) (.int .i64 code3)).setCell (p := ⟨rb, 1, none⟩) (Nat.le_refl rb) (.int .i64 at3)
                  dsimp only
                  rcases htv3 with rfl | ⟨_, _, _, rfl⟩
                  all_goals
                    go_wp2_with fail
                    go_region
                  all_goals
                    go_wp2_with fail
                    refine bodyPost_ret (v := .tuple #[.slice none 0 0, .pointer none, .agg #[.int .i64 code3, .int .i64 at3]]) (by simp [results, Tryz.results17, go_sem, s0, s1]) rfl (.inr ⟨(code3, at3), ?_, rfl, unhide Hc3, by rw [unhide HRB]; first | exact Dd | exact D5⟩)
                    exact unhide HF (code3, at3) (by rw [stepS, unhide HCD]; exact unhide HGN _ (tryX_err (unhide HO3)))
            · have et1 : (t2 != 1) = true := bne_iff_ne.2 ht1
              have HQ := hide (unhide HF (9, (mm : Int)) (by rw [stepS, unhide HCF, ckX_wrong hk1 ht1]; rfl))
              clear hk1 ht1
              have XD := X2.below (Below.refl _ _).drew
              obtain ⟨r9a0, r9a1⟩ := row2 X2.R
              have rf9a := fun j => X2.R.frozen j
              have rg9a := fun j => (X2.R.set 0 (.int .i64 9)).frozen j
              obtain ⟨s9a0, s9a1⟩ := row2 ((X2.R.set 0 (.int .i64 9)).set 1 (.int .i64 mm))
              obtain ⟨rd0, rd1⟩ := row2 XD.R
              have rdf := fun j => XD.R.frozen j
              have rdg := fun j => (XD.R.set 0 (.int .i64 9)).frozen j
              obtain ⟨sd0, sd1⟩ := row2 ((XD.R.set 0 (.int .i64 9)).set 1 (.int .i64 mm))
              obtain ⟨ud0, ud1, ud2, ud3, udf⟩ := row4' XD.S
              have D9a := (X2.low.setCell (p := ⟨rb, 0, none⟩) (Nat.le_refl rb) (.int .i64 9)).setCell (p := ⟨rb, 1, none⟩) (Nat.le_refl rb) (.int .i64 mm)
              have Dd := (XD.low.setCell (p := ⟨rb, 0, none⟩) (Nat.le_refl rb) (.int .i64 9)).setCell (p := ⟨rb, 1, none⟩) (Nat.le_refl rb) (.int .i64 mm)
              go_wp2_with fail
              go_region
              all_goals
                go_wp2_with fail
                refine bodyPost_ret (v := .tuple #[.slice none 0 0, .pointer none, .agg #[.int .i64 9, .int .i64 mm]]) (by simp [results, Tryz.results17, go_sem, s9a0, s9a1]) rfl (.inr ⟨(9, (mm : Int)), ?_, rfl, (by show (9 : Int) ≠ 0; decide), by rw [unhide HRB]; first | exact Dd | exact D9a⟩)
                exact unhide HQ
        · have F2 := Z0.F.below b2 Z0.ord.2.2.1
          have R2 := Z0.R.below b2 (by have := Z0.ord; omega)
          have D2 := Z0.low.trans (b2.mono (by have := Z0.ord; omega))
          have ec2 : (code2 != 0) = true := bne_iff_ne.2 hc2
          have Hc2 := hide hc2
          have HO2 := hide ho2
          clear hc2 ho2
          have hrf : rb ≠ fb := by have := Z0.ord; omega
          obtain ⟨p0, p1⟩ := row2 F2
          have f0 := fun j => F2.frozen j
          have f1 := fun j => (F2.set 0 (.int .i64 code2)).frozen j
          have F3 := (F2.set 0 (.int .i64 code2)).set 1 (.int .i64 at2)
          have R3 := (R2.setFar (p := ⟨fb, 0, none⟩) hrf (.int .i64 code2)).setFar (p := ⟨fb, 1, none⟩) hrf (.int .i64 at2)
          have D3 := (D2.setCell (p := ⟨fb, 0, none⟩) (by have := Z0.ord; show rb ≤ fb; omega) (.int .i64 code2)).setCell (p := ⟨fb, 1, none⟩) (by have := Z0.ord; show rb ≤ fb; omega) (.int .i64 at2)
          obtain ⟨q0, q1⟩ := row2 F3
          obtain ⟨r0, r1⟩ := row2 R3
          have rf := fun j => R3.frozen j
          have R4 := R3.set 0 (.int .i64 code2)
          have rg := fun j => R4.frozen j
          have R5 := R4.set 1 (.int .i64 at2)
          obtain ⟨s0, s1⟩ := row2 R5
          have D5 := (D3.setCell (p := ⟨rb, 0, none⟩) (Nat.le_refl rb) (.int .i64 code2)).setCell (p := ⟨rb, 1, none⟩) (Nat.le_refl rb) (.int .i64 at2)
          have FD := F3.after (Below.refl _ _).drew (Nat.le_refl _)
          have RD := R3.after (Below.refl _ _).drew (Nat.le_refl _)
          obtain ⟨qd0, qd1⟩ := row2 FD
          obtain ⟨rd0, rd1⟩ := row2 RD
          have rdf := fun j => RD.frozen j
          have rdg := fun j => (RD.set 0 (.int .i64 code2)).frozen j
          obtain ⟨sd0, sd1⟩ := row2 ((RD.set 0 (.int .i64 code2)).set 1 (.int .i64 at2))
          have Dd := (D3.drew.setCell (p := ⟨rb, 0, none⟩) (Nat.le_refl rb) (.int .i64 code2)).setCell (p := ⟨rb, 1, none⟩) (Nat.le_refl rb) (.int .i64 at2)
          dsimp only
          rcases htv2 with rfl | ⟨_, _, _, rfl⟩
          all_goals
            go_wp2_with fail
            go_region
          all_goals
            go_wp2_with fail
            refine bodyPost_ret (v := .tuple #[.slice none 0 0, .pointer none, .agg #[.int .i64 code2, .int .i64 at2]]) (by simp [results, Tryz.results17, go_sem, s0, s1]) rfl (.inr ⟨(code2, at2), ?_, rfl, unhide Hc2, by rw [unhide HRB]; first | exact Dd | exact D5⟩)
            exact unhide HF (code2, at2) (by rw [stepS, unhide HCE, tryX_err (unhide HO2), ckX_err]; rfl)
    · have e : k = m := by omega
      subst e
      have HX := hide (show allS Es (attD, [], []) L = .ok (dOf ns ts, ts, tt) by rw [← (unhide HA).1, ← unhide HL, List.take_length])
      obtain ⟨p0, p1⟩ := row2 R1
      have f0 := fun j => R1.frozen j
      have R3 := R1.set 0 (.int .i64 0)
      have f1 := fun j => R3.frozen j
      have R4 := R3.set 1 (.int .i64 0)
      have s0 : ((wr.setCell ⟨rb, 0, none⟩ (.int .i64 0)).setCell ⟨rb, 1, none⟩ (.int .i64 0)).cell? ⟨rb, 0, none⟩ = some (.int .i64 0) := R4.cell 0
      have s1 : ((wr.setCell ⟨rb, 0, none⟩ (.int .i64 0)).setCell ⟨rb, 1, none⟩ (.int .i64 0)).cell? ⟨rb, 1, none⟩ = some (.int .i64 0) := R4.cell 1
      go_wp2_with fail
      refine bodyPost_ret (v := .tuple #[.slice xv tt.length cv, .pointer (some ⟨lb, 0, none⟩), .agg #[.int .i64 0, .int .i64 0]]) (by simp [results, Tryz.results17, go_sem, s0, s1]) rfl (.inl ⟨B, lb, ns, ts, tt, nv, lv, _, unhide HX, (unhide HA).2, rfl, ?_, ?_, ?_⟩)
      · exact (M1.set ⟨rb, 0, none⟩ _ (by show rb < B; omega) (by show rb ≠ lb; omega)).set ⟨rb, 1, none⟩ _ (by show rb < B; omega) (by show rb ≠ lb; omega)
      · rw [unhide HRB]; exact (unhide HZB).1
      · rw [unhide HRB]
        exact (D1.setCell (p := ⟨rb, 0, none⟩) (Nat.le_refl rb) _).setCell (p := ⟨rb, 1, none⟩) (Nat.le_refl rb) _

end Go.Proofs.YtddpcehgopeklaaGreatDoor

namespace Go.Proofs.YtddpcehgopeklaaGreatDoor
open Go.RowKit
set_option linter.unusedVariables false

/-- what Check hands back: a typed policy and no fault, or a fault -/
def CkF (r : CkR) (lo : Nat) (e : Ending) (w' : World) : Prop :=
  (∃ f : Int × Int, r = .error f ∧ e = .returned (.tuple #[.agg #[.slice none 0 0, .slice none 0 0, .slice none 0 0], .agg #[.int .i64 f.1, .int .i64 f.2]])) ∨
  (∃ N L T x n cx y m cy z p cz nv kv hi, r = .ok (N, L, T) ∧ e = .returned (.tuple #[.agg #[.slice x n cx, .slice y m cy, .slice z p cz], .agg #[.int .i64 0, .int .i64 0]]) ∧ OwnTy w' lo hi x n cx y m cy z p cz N nv kv L T)

set_option maxHeartbeats 3200000 in
set_option maxRecDepth 100000 in
theorem iCheck_any (a b : Option Addr) (n c m d : Nat) (N : List Nd) (L : List St) (aX a1 a2 a3 a4 a5 a6 a7 a8 a9 : Addr) (w : World) (h1 : Nds w a n c N) (h2 : Sts w b m d L) (hT : TabOK w) (hV : Vok w a9) (hS : Sn9 w aX a1 a2 a3 a4 a5 a6 a7 a8 a9) (hN : ∀ x ∈ N, x.num ≤ 9223372036854775807) :
    Calls Tryz.prog 7 #[.agg #[.slice a n c, .slice b m d]] w fun r w' => (∃ q, IsCk N L q ∧ CkF q w.heap.size r w') ∧ Below w.heap.size w w' := by
  have HC := hide (fun W (hW : Below w.heap.size w W) => check_any a b n c m d N L aX a1 a2 a3 a4 a5 a6 a7 a8 a9 W (h1.below hW (Nat.le_refl _)) (h2.below hW (Nat.le_refl _)) (hT.below hW (Nat.le_refl _)) (hV.below hW (Nat.le_refl _)) (hS.below hW (Nat.le_refl _)) hN)
  have HS := hide hS
  clear h1 h2 hT hV hS hN
  have RT := ((Row.new (w.alloc (.cells #[.slice a n c, .slice b m d] 37)) #[.slice none 0 0, .slice none 0 0, .slice none 0 0] 31)).alloc (.cells #[.int .i64 0, .int .i64 0] 33)
  have RF := Row.new ((w.alloc (.cells #[.slice a n c, .slice b m d] 37)).alloc (.cells #[.slice none 0 0, .slice none 0 0, .slice none 0 0] 31)) #[.int .i64 0, .int .i64 0] 33
  simp only [World.size_alloc] at RT RF
  have B1 := (((Below.refl w.heap.size w).alloc (Nat.le_refl _) (.cells #[.slice a n c, .slice b m d] 37)).alloc (by simp) (.cells #[.slice none 0 0, .slice none 0 0, .slice none 0 0] 31)).alloc (by simp; omega) (.cells #[.int .i64 0, .int .i64 0] 33)
  have hnm : (Tryz.f24.name == "runtime.NumGoroutine") = false := by kernel_rfl
  have hbd : Tryz.f24.body.isNone = false := by kernel_rfl
  have W1E : ∃ W1, W1 = ((w.alloc (.cells #[.slice a n c, .slice b m d] 37)).alloc (.cells #[.slice none 0 0, .slice none 0 0, .slice none 0 0] 31)).alloc (.cells #[.int .i64 0, .int .i64 0] 33) := ⟨_, rfl⟩
  go_enter Tryz.func7, Tryz.ntmps7
  go_wp2_with fail
  obtain ⟨W1, hW1⟩ := W1E
  rw [← hW1] at RT RF B1 ⊢
  clear hW1
  refine (unhide HC _ B1).mono ?_
  rintro r w2 ⟨⟨q, hq, hr⟩, hb2⟩
  have HQ := hide hq
  have RT2 := RT.after hb2 (Nat.le_refl _)
  have RF2 := RF.after hb2 (Nat.le_refl _)
  have B2 := B1.trans (hb2.mono B1.size)
  have zz := RF.lt
  clear hq RT RF B1 HC
  rcases hr with ⟨rfl, rfl⟩ | ⟨f, g, rfl, hf, rfl, hee⟩ | ⟨N', L', T', x, n', cx, y, m', cy, z, p, cz, nv, kv, rfl, rfl, OW⟩
  · have HF := hide (fun W (hW : Below w2.heap.size w2 W) => faultX_shape aX W ((unhide HS).below (B2.trans (hW.mono B2.size)) (Nat.le_refl _)))
    have A3 := Row.new w2 #[.slice none 0 0, .slice none 0 0, .slice none 0 0] 31
    have RT3 := RT2.alloc (.cells #[.slice none 0 0, .slice none 0 0, .slice none 0 0] 31)
    have RF3 := RF2.alloc (.cells #[.slice none 0 0, .slice none 0 0, .slice none 0 0] 31)
    have B3 := B2.alloc B2.size (.cells #[.slice none 0 0, .slice none 0 0, .slice none 0 0] 31)
    have K3 := (Below.refl w2.heap.size w2).alloc (Nat.le_refl _) (.cells #[.slice none 0 0, .slice none 0 0, .slice none 0 0] 31)
    have W3E : ∃ W3, W3 = w2.alloc (.cells #[.slice none 0 0, .slice none 0 0, .slice none 0 0] 31) := ⟨_, rfl⟩
    have hsz : w.heap.size + 1 + 1 < w2.heap.size := RF2.lt
    dsimp only
    go_wp2_with fail
    obtain ⟨W3, hW3⟩ := W3E
    rw [← hW3] at A3 RT3 RF3 B3 K3 ⊢
    clear hW3
    have r0 : W3.cell? ⟨w2.heap.size, 0, none⟩ = some (.slice none 0 0) := A3.cell 0
    have r1 : W3.cell? ⟨w2.heap.size, 1, none⟩ = some (.slice none 0 0) := A3.cell 1
    have r2 : W3.cell? ⟨w2.heap.size, 2, none⟩ = some (.slice none 0 0) := A3.cell 2
    have D3 : Below W3.heap.size W3 W3.drew := (Below.refl _ _).drew
    go_region_law (refine step_callR rfl 24 _ Tryz.func24 hnm hbd _ _ rfl (.iface 224 (.pointer (some aX))) rfl (fun v' w' => v' = .agg #[.int .i64 10, .int .i64 0] ∧ Below W3.heap.size W3 w') ((unhide HF W3.drew K3.drew).mono (fun r w' h => ⟨_, h.1, rfl, D3.trans h.2⟩)) ?_; rintro v4 w4 ⟨rfl, hb4⟩; have A4 := A3.after hb4 (Nat.le_refl _); have RT4 := RT3.after hb4 (Nat.le_refl _); have RF4 := RF3.after hb4 (Nat.le_refl _); have s0 : w4.cell? ⟨w2.heap.size, 0, none⟩ = some (.slice none 0 0) := A4.cell 0; have s1 : w4.cell? ⟨w2.heap.size, 1, none⟩ = some (.slice none 0 0) := A4.cell 1; have s2 : w4.cell? ⟨w2.heap.size, 2, none⟩ = some (.slice none 0 0) := A4.cell 2; have t0 : w4.cell? ⟨w.heap.size + 1, 0, none⟩ = some (.slice none 0 0) := RT4.cell 0; have t1 : w4.cell? ⟨w.heap.size + 1, 1, none⟩ = some (.slice none 0 0) := RT4.cell 1; have t2 : w4.cell? ⟨w.heap.size + 1, 2, none⟩ = some (.slice none 0 0) := RT4.cell 2; have tf := fun k => RT4.frozen k; have u0 : w4.cell? ⟨w.heap.size + 1 + 1, 0, none⟩ = some (.int .i64 0) := RF4.cell 0; have u1 : w4.cell? ⟨w.heap.size + 1 + 1, 1, none⟩ = some (.int .i64 0) := RF4.cell 1; have uf := fun k => RF4.frozen k)
    all_goals
      have RT5 := ((((RT4.set 0 (.slice none 0 0)).set 1 (.slice none 0 0)).set 2 (.slice none 0 0)).setFar (p := ⟨w.heap.size + 1 + 1, 0, none⟩) (by show w.heap.size + 1 ≠ w.heap.size + 1 + 1; omega) (.int .i64 10)).setFar (p := ⟨w.heap.size + 1 + 1, 1, none⟩) (by show w.heap.size + 1 ≠ w.heap.size + 1 + 1; omega) (.int .i64 0)
      have RF5 := ((((RF4.setFar (p := ⟨w.heap.size + 1, 0, none⟩) (by show w.heap.size + 1 + 1 ≠ w.heap.size + 1; omega) (.slice none 0 0)).setFar (p := ⟨w.heap.size + 1, 1, none⟩) (by show w.heap.size + 1 + 1 ≠ w.heap.size + 1; omega) (.slice none 0 0)).setFar (p := ⟨w.heap.size + 1, 2, none⟩) (by show w.heap.size + 1 + 1 ≠ w.heap.size + 1; omega) (.slice none 0 0)).set 0 (.int .i64 10)).set 1 (.int .i64 0)
      have B4 := B3.trans (hb4.mono B3.size)
      have B5 := ((((B4.setCell (p := ⟨w.heap.size + 1, 0, none⟩) (Nat.le_succ _) (.slice none 0 0)).setCell (p := ⟨w.heap.size + 1, 1, none⟩) (Nat.le_succ _) (.slice none 0 0)).setCell (p := ⟨w.heap.size + 1, 2, none⟩) (Nat.le_succ _) (.slice none 0 0)).setCell (p := ⟨w.heap.size + 1 + 1, 0, none⟩) (by show w.heap.size ≤ w.heap.size + 1 + 1; omega) (.int .i64 10)).setCell (p := ⟨w.heap.size + 1 + 1, 1, none⟩) (by show w.heap.size ≤ w.heap.size + 1 + 1; omega) (.int .i64 0)
      clear s0 s1 s2 t0 t1 t2 tf u0 u1 uf r0 r1 r2
      generalize ((((w4.setCell ⟨w.heap.size + 1, 0, none⟩ (.slice none 0 0)).setCell ⟨w.heap.size + 1, 1, none⟩ (.slice none 0 0)).setCell ⟨w.heap.size + 1, 2, none⟩ (.slice none 0 0)).setCell ⟨w.heap.size + 1 + 1, 0, none⟩ (.int .i64 10)).setCell ⟨w.heap.size + 1 + 1, 1, none⟩ (.int .i64 0) = W5 at *
      obtain ⟨e0, e1, e2, _⟩ := row3 RT5
      obtain ⟨g0, g1⟩ := row2 RF5
      go_wp2_with fail
      exact bodyPost_ret (v := .tuple #[.agg #[.slice none 0 0, .slice none 0 0, .slice none 0 0], .agg #[.int .i64 10, .int .i64 0]]) (by simp [results, Tryz.results7, go_sem, e0, e1, e2, g0, g1]) rfl ⟨⟨_, unhide HQ, .inl ⟨(10, 0), rfl, rfl⟩⟩, B5⟩
  · have HF := hide (fun W (hW : Below w2.heap.size w2 W) => faultX_any g f W ((unhide HS).below (B2.trans (hW.mono B2.size)) (Nat.le_refl _)) (Row.after hee hW (Nat.le_refl _)) hf)
    have A3 := Row.new w2 #[.slice none 0 0, .slice none 0 0, .slice none 0 0] 31
    have RT3 := RT2.alloc (.cells #[.slice none 0 0, .slice none 0 0, .slice none 0 0] 31)
    have RF3 := RF2.alloc (.cells #[.slice none 0 0, .slice none 0 0, .slice none 0 0] 31)
    have B3 := B2.alloc B2.size (.cells #[.slice none 0 0, .slice none 0 0, .slice none 0 0] 31)
    have K3 := (Below.refl w2.heap.size w2).alloc (Nat.le_refl _) (.cells #[.slice none 0 0, .slice none 0 0, .slice none 0 0] 31)
    have W3E : ∃ W3, W3 = w2.alloc (.cells #[.slice none 0 0, .slice none 0 0, .slice none 0 0] 31) := ⟨_, rfl⟩
    have hsz : w.heap.size + 1 + 1 < w2.heap.size := RF2.lt
    dsimp only
    go_wp2_with fail
    obtain ⟨W3, hW3⟩ := W3E
    rw [← hW3] at A3 RT3 RF3 B3 K3 ⊢
    clear hW3
    have r0 : W3.cell? ⟨w2.heap.size, 0, none⟩ = some (.slice none 0 0) := A3.cell 0
    have r1 : W3.cell? ⟨w2.heap.size, 1, none⟩ = some (.slice none 0 0) := A3.cell 1
    have r2 : W3.cell? ⟨w2.heap.size, 2, none⟩ = some (.slice none 0 0) := A3.cell 2
    have D3 : Below W3.heap.size W3 W3.drew := (Below.refl _ _).drew
    go_region_law (refine step_callR rfl 24 _ Tryz.func24 hnm hbd _ _ rfl (.iface 97 (.pointer (some ⟨g, 0, none⟩))) rfl (fun v' w' => v' = .agg #[.int .i64 f.1, .int .i64 f.2] ∧ Below W3.heap.size W3 w') ((unhide HF W3.drew K3.drew).mono (fun r w' h => ⟨_, h.1, rfl, D3.trans h.2⟩)) ?_; rintro v4 w4 ⟨rfl, hb4⟩; have A4 := A3.after hb4 (Nat.le_refl _); have RT4 := RT3.after hb4 (Nat.le_refl _); have RF4 := RF3.after hb4 (Nat.le_refl _); have s0 : w4.cell? ⟨w2.heap.size, 0, none⟩ = some (.slice none 0 0) := A4.cell 0; have s1 : w4.cell? ⟨w2.heap.size, 1, none⟩ = some (.slice none 0 0) := A4.cell 1; have s2 : w4.cell? ⟨w2.heap.size, 2, none⟩ = some (.slice none 0 0) := A4.cell 2; have t0 : w4.cell? ⟨w.heap.size + 1, 0, none⟩ = some (.slice none 0 0) := RT4.cell 0; have t1 : w4.cell? ⟨w.heap.size + 1, 1, none⟩ = some (.slice none 0 0) := RT4.cell 1; have t2 : w4.cell? ⟨w.heap.size + 1, 2, none⟩ = some (.slice none 0 0) := RT4.cell 2; have tf := fun k => RT4.frozen k; have u0 : w4.cell? ⟨w.heap.size + 1 + 1, 0, none⟩ = some (.int .i64 0) := RF4.cell 0; have u1 : w4.cell? ⟨w.heap.size + 1 + 1, 1, none⟩ = some (.int .i64 0) := RF4.cell 1; have uf := fun k => RF4.frozen k)
    all_goals
      have RT5 := ((((RT4.set 0 (.slice none 0 0)).set 1 (.slice none 0 0)).set 2 (.slice none 0 0)).setFar (p := ⟨w.heap.size + 1 + 1, 0, none⟩) (by show w.heap.size + 1 ≠ w.heap.size + 1 + 1; omega) (.int .i64 f.1)).setFar (p := ⟨w.heap.size + 1 + 1, 1, none⟩) (by show w.heap.size + 1 ≠ w.heap.size + 1 + 1; omega) (.int .i64 f.2)
      have RF5 := ((((RF4.setFar (p := ⟨w.heap.size + 1, 0, none⟩) (by show w.heap.size + 1 + 1 ≠ w.heap.size + 1; omega) (.slice none 0 0)).setFar (p := ⟨w.heap.size + 1, 1, none⟩) (by show w.heap.size + 1 + 1 ≠ w.heap.size + 1; omega) (.slice none 0 0)).setFar (p := ⟨w.heap.size + 1, 2, none⟩) (by show w.heap.size + 1 + 1 ≠ w.heap.size + 1; omega) (.slice none 0 0)).set 0 (.int .i64 f.1)).set 1 (.int .i64 f.2)
      have B4 := B3.trans (hb4.mono B3.size)
      have B5 := ((((B4.setCell (p := ⟨w.heap.size + 1, 0, none⟩) (Nat.le_succ _) (.slice none 0 0)).setCell (p := ⟨w.heap.size + 1, 1, none⟩) (Nat.le_succ _) (.slice none 0 0)).setCell (p := ⟨w.heap.size + 1, 2, none⟩) (Nat.le_succ _) (.slice none 0 0)).setCell (p := ⟨w.heap.size + 1 + 1, 0, none⟩) (by show w.heap.size ≤ w.heap.size + 1 + 1; omega) (.int .i64 f.1)).setCell (p := ⟨w.heap.size + 1 + 1, 1, none⟩) (by show w.heap.size ≤ w.heap.size + 1 + 1; omega) (.int .i64 f.2)
      clear s0 s1 s2 t0 t1 t2 tf u0 u1 uf r0 r1 r2
      generalize ((((w4.setCell ⟨w.heap.size + 1, 0, none⟩ (.slice none 0 0)).setCell ⟨w.heap.size + 1, 1, none⟩ (.slice none 0 0)).setCell ⟨w.heap.size + 1, 2, none⟩ (.slice none 0 0)).setCell ⟨w.heap.size + 1 + 1, 0, none⟩ (.int .i64 f.1)).setCell ⟨w.heap.size + 1 + 1, 1, none⟩ (.int .i64 f.2) = W5 at *
      obtain ⟨e0, e1, e2, _⟩ := row3 RT5
      obtain ⟨g0, g1⟩ := row2 RF5
      go_wp2_with fail
      exact bodyPost_ret (v := .tuple #[.agg #[.slice none 0 0, .slice none 0 0, .slice none 0 0], .agg #[.int .i64 f.1, .int .i64 f.2]]) (by simp [results, Tryz.results7, go_sem, e0, e1, e2, g0, g1]) rfl ⟨⟨_, unhide HQ, .inl ⟨f, rfl, rfl⟩⟩, B5⟩
  · have HF := hide (fun W (hW : Below w2.heap.size w2 W) => faultX_nil W)
    have A3 := Row.new w2 #[.slice x n' cx, .slice y m' cy, .slice z p cz] 31
    have RT3 := RT2.alloc (.cells #[.slice x n' cx, .slice y m' cy, .slice z p cz] 31)
    have RF3 := RF2.alloc (.cells #[.slice x n' cx, .slice y m' cy, .slice z p cz] 31)
    have B3 := B2.alloc B2.size (.cells #[.slice x n' cx, .slice y m' cy, .slice z p cz] 31)
    have K3 := (Below.refl w2.heap.size w2).alloc (Nat.le_refl _) (.cells #[.slice x n' cx, .slice y m' cy, .slice z p cz] 31)
    have W3E : ∃ W3, W3 = w2.alloc (.cells #[.slice x n' cx, .slice y m' cy, .slice z p cz] 31) := ⟨_, rfl⟩
    have hsz : w.heap.size + 1 + 1 < w2.heap.size := RF2.lt
    dsimp only
    go_wp2_with fail
    obtain ⟨W3, hW3⟩ := W3E
    rw [← hW3] at A3 RT3 RF3 B3 K3 ⊢
    clear hW3
    have r0 : W3.cell? ⟨w2.heap.size, 0, none⟩ = some (.slice x n' cx) := A3.cell 0
    have r1 : W3.cell? ⟨w2.heap.size, 1, none⟩ = some (.slice y m' cy) := A3.cell 1
    have r2 : W3.cell? ⟨w2.heap.size, 2, none⟩ = some (.slice z p cz) := A3.cell 2
    have D3 : Below W3.heap.size W3 W3.drew := (Below.refl _ _).drew
    go_region_law (refine step_callR rfl 24 _ Tryz.func24 hnm hbd _ _ rfl .nilIface rfl (fun v' w' => v' = .agg #[.int .i64 0, .int .i64 0] ∧ Below W3.heap.size W3 w') ((unhide HF W3.drew K3.drew).mono (fun r w' h => ⟨_, h.1, rfl, D3.trans h.2⟩)) ?_; rintro v4 w4 ⟨rfl, hb4⟩; have A4 := A3.after hb4 (Nat.le_refl _); have RT4 := RT3.after hb4 (Nat.le_refl _); have RF4 := RF3.after hb4 (Nat.le_refl _); have s0 : w4.cell? ⟨w2.heap.size, 0, none⟩ = some (.slice x n' cx) := A4.cell 0; have s1 : w4.cell? ⟨w2.heap.size, 1, none⟩ = some (.slice y m' cy) := A4.cell 1; have s2 : w4.cell? ⟨w2.heap.size, 2, none⟩ = some (.slice z p cz) := A4.cell 2; have t0 : w4.cell? ⟨w.heap.size + 1, 0, none⟩ = some (.slice none 0 0) := RT4.cell 0; have t1 : w4.cell? ⟨w.heap.size + 1, 1, none⟩ = some (.slice none 0 0) := RT4.cell 1; have t2 : w4.cell? ⟨w.heap.size + 1, 2, none⟩ = some (.slice none 0 0) := RT4.cell 2; have tf := fun k => RT4.frozen k; have u0 : w4.cell? ⟨w.heap.size + 1 + 1, 0, none⟩ = some (.int .i64 0) := RF4.cell 0; have u1 : w4.cell? ⟨w.heap.size + 1 + 1, 1, none⟩ = some (.int .i64 0) := RF4.cell 1; have uf := fun k => RF4.frozen k)
    all_goals
      have RT5 := ((((RT4.set 0 (.slice x n' cx)).set 1 (.slice y m' cy)).set 2 (.slice z p cz)).setFar (p := ⟨w.heap.size + 1 + 1, 0, none⟩) (by show w.heap.size + 1 ≠ w.heap.size + 1 + 1; omega) (.int .i64 0)).setFar (p := ⟨w.heap.size + 1 + 1, 1, none⟩) (by show w.heap.size + 1 ≠ w.heap.size + 1 + 1; omega) (.int .i64 0)
      have RF5 := ((((RF4.setFar (p := ⟨w.heap.size + 1, 0, none⟩) (by show w.heap.size + 1 + 1 ≠ w.heap.size + 1; omega) (.slice x n' cx)).setFar (p := ⟨w.heap.size + 1, 1, none⟩) (by show w.heap.size + 1 + 1 ≠ w.heap.size + 1; omega) (.slice y m' cy)).setFar (p := ⟨w.heap.size + 1, 2, none⟩) (by show w.heap.size + 1 + 1 ≠ w.heap.size + 1; omega) (.slice z p cz)).set 0 (.int .i64 0)).set 1 (.int .i64 0)
      have B4 := B3.trans (hb4.mono B3.size)
      have B5 := ((((B4.setCell (p := ⟨w.heap.size + 1, 0, none⟩) (Nat.le_succ _) (.slice x n' cx)).setCell (p := ⟨w.heap.size + 1, 1, none⟩) (Nat.le_succ _) (.slice y m' cy)).setCell (p := ⟨w.heap.size + 1, 2, none⟩) (Nat.le_succ _) (.slice z p cz)).setCell (p := ⟨w.heap.size + 1 + 1, 0, none⟩) (by show w.heap.size ≤ w.heap.size + 1 + 1; omega) (.int .i64 0)).setCell (p := ⟨w.heap.size + 1 + 1, 1, none⟩) (by show w.heap.size ≤ w.heap.size + 1 + 1; omega) (.int .i64 0)
      have OW5 : OwnTy (((((w4.setCell ⟨w.heap.size + 1, 0, none⟩ (.slice x n' cx)).setCell ⟨w.heap.size + 1, 1, none⟩ (.slice y m' cy)).setCell ⟨w.heap.size + 1, 2, none⟩ (.slice z p cz)).setCell ⟨w.heap.size + 1 + 1, 0, none⟩ (.int .i64 0)).setCell ⟨w.heap.size + 1 + 1, 1, none⟩ (.int .i64 0)) w.heap.size w2.heap.size x n' cx y m' cy z p cz N' nv kv L' T' := by
        have kp : ∀ q, W1.heap.size ≤ q → q < w2.heap.size → (((((w4.setCell ⟨w.heap.size + 1, 0, none⟩ (.slice x n' cx)).setCell ⟨w.heap.size + 1, 1, none⟩ (.slice y m' cy)).setCell ⟨w.heap.size + 1, 2, none⟩ (.slice z p cz)).setCell ⟨w.heap.size + 1 + 1, 0, none⟩ (.int .i64 0)).setCell ⟨w.heap.size + 1 + 1, 1, none⟩ (.int .i64 0)).heap[q]? = w2.heap[q]? := fun q h1 h2 => by
          have n1 : q ≠ w.heap.size + 1 := by omega
          have n2 : q ≠ w.heap.size + 1 + 1 := by omega
          rw [heap_setCell_other _ _ q _ n2, heap_setCell_other _ _ q _ n2, heap_setCell_other _ _ q _ n1, heap_setCell_other _ _ q _ n1, heap_setCell_other _ _ q _ n1, hb4.block q (Nat.lt_of_lt_of_le h2 K3.size), K3.block q h2]
        have z1 : w.heap.size ≤ W1.heap.size := by omega
        exact ⟨(OW.nd.blocks kp).low z1, owns_lowO (owns_blocks2 OW.st (fun q hq => kp q (OW.st.lt q hq).1 (OW.st.lt q hq).2)) z1, owns_lowO (owns_blocks2 OW.ty (fun q hq => kp q (OW.ty.lt q hq).1 (OW.ty.lt q hq).2)) z1, OW.apart, OW.inN, OW.inS, OW.inT, by have := K3.size; have := hb4.size; simp; omega, OW.nn, OW.ns, OW.nt⟩
      clear s0 s1 s2 t0 t1 t2 tf u0 u1 uf r0 r1 r2
      generalize ((((w4.setCell ⟨w.heap.size + 1, 0, none⟩ (.slice x n' cx)).setCell ⟨w.heap.size + 1, 1, none⟩ (.slice y m' cy)).setCell ⟨w.heap.size + 1, 2, none⟩ (.slice z p cz)).setCell ⟨w.heap.size + 1 + 1, 0, none⟩ (.int .i64 0)).setCell ⟨w.heap.size + 1 + 1, 1, none⟩ (.int .i64 0) = W5 at *
      obtain ⟨e0, e1, e2, _⟩ := row3 RT5
      obtain ⟨g0, g1⟩ := row2 RF5
      go_wp2_with fail
      exact bodyPost_ret (v := .tuple #[.agg #[.slice x n' cx, .slice y m' cy, .slice z p cz], .agg #[.int .i64 0, .int .i64 0]]) (by simp [results, Tryz.results7, go_sem, e0, e1, e2, g0, g1]) rfl ⟨⟨_, unhide HQ, .inr ⟨_, _, _, _, _, _, _, _, _, _, _, _, _, _, _, rfl, rfl, OW5⟩⟩, B5⟩

end Go.Proofs.YtddpcehgopeklaaGreatDoor

/-
  Parse, the model: Parse where all tokens fit (written by mkhv.py). Own work.
-/
import Derived.Test.YtcehablmloleaaaGreatDoorHV
namespace Go.Proofs.YtcehablmloleaaaGreatDoor
open Go.RowKit
set_option linter.unusedVariables false

/-- a policy that is written down is answered -/
theorem IpA.good {w wq w' : World} {nb : Nat} {tv nd pl sv : Value} {M : List Nd} {Q : List Int} {L : List St} {nv kv : List Value} (C : LuO wq nb nb tv M Q nd pl nv kv) (O : wq.ownsRow nb 51 4 sv L.length (stmC L)) (hz : w.heap.size + 1 < nb) (p0 p1 f0 f1 : Value) (hw : w' = pfW wq w.heap.size p0 p1 f0 f1) (hb : Below w.heap.size w w') : IpA (M, L, Q, 0, 0) w (.returned (.tuple #[.agg #[nd, sv], pl, .agg #[.int .i64 0, .int .i64 0]])) w' := by
  have kp : ∀ q, nb ≤ q → q < wq.heap.size → w'.heap[q]? = wq.heap[q]? := fun q h1 _ => by rw [hw]; exact pfW_other _ _ _ _ _ _ q (by omega) (by omega)
  exact ⟨⟨nd, pl, nv, kv, sv, rfl, (C.nodes.blocks kp).low (by omega), owns_low (owns_blocksN O (fun q hq => kp q (O.lt q hq).1 (O.lt q hq).2)) (by omega), owns_low (owns_blocksN C.places (fun q hq => kp q (C.places.lt q hq).1 (C.places.lt q hq).2)) (by omega), C.apart⟩, hb⟩

/-- how far the sets are looked at -/
def WsI (T : List Tok) (o : Option Int) (W4 : World) (vi : Value) (wr : World) : Prop :=
  ∃ k : Nat, k ≤ T.length ∧ vi = .int .i64 (k : Int) ∧ o = (wsP (setsT (T.drop k))).head? ∧ Below W4.heap.size W4 wr

theorem wsP_cons (i : Nat) (ss : List ByteArray) (L : List (Nat × List ByteArray)) : (wsP ((i, ss) :: L)).head? = if 64 < (srt ss).length then some (i : Int) else (wsP L).head? := by
  rw [wsP, List.filterMap_cons]
  dsimp only
  split
  · rename_i h
    rw [if_neg (by intro h2; rw [if_pos h2] at h; cases h)]
    rfl
  · rename_i j h
    by_cases h2 : 64 < (srt ss).length
    · rw [if_pos h2] at h ⊢
      injection h with h
      rw [← h]
      rfl
    · rw [if_neg h2] at h
      cases h

/-- how far the statements are -/
def PsI (T : List Tok) (S : List Ps) (g ca nb : Nat) (W4 : World) (vs vl : Value) (wr : World) : Prop :=
  ∃ (k : Nat) (S1 S2 : List Ps) (nd pl : Value) (nv kv : List Value), k ≤ T.length ∧ vl = .int .i64 (k : Int) ∧ S = S1 ++ S2 ∧ PC (T.drop k) S2 ∧ shX (S.map Ps.sx) = shX (S2.map Ps.sx) ∧ wr.ownsRow nb 51 4 vs S1.length (stmC (numT 0 (S1.map Ps.sx))) ∧ LuO wr nb nb (.slice (some ⟨g, 0, none⟩) T.length ca) (numN 0 (S1.map Ps.sx)) (numP (S1.map Ps.sx)) nd pl nv kv ∧ Below nb W4 wr

theorem SC.at_eq {c : List Tok} {s : Ps} (h : SC c s) : ∃ t r, c = t :: r ∧ t.at_ = s.at_ := by
  cases h with
  | let_ => exact ⟨_, _, rfl, rfl⟩
  | when => exact ⟨_, _, rfl, rfl⟩
  | else_ => exact ⟨_, _, rfl, rfl⟩

theorem spn_of_drop {T : List Tok} {k : Nat} {c r : List Tok} (h : T.drop k = c ++ r) : spn T k (k + c.length) = c := by
  rw [spn, List.drop_take, h]
  simp

set_option maxRecDepth 100000 in
set_option maxHeartbeats 6400000 in
theorem sParse_ok (t : ByteArray) (S : List Ps) (w : World) (ht : t.size ≤ 1048576) (hc : (scanR t).code = 0) (d : DP (scanR t).toks (.ok S)) :
    Calls Tryz.prog 4 #[.string t] w (IpA (psR t (.ok S)) w) := by
  obtain ⟨A, hA⟩ : ∃ A, A = psR t (.ok S) := ⟨_, rfl⟩
  have HPW := hide (fun i h => psR_wide (S := S) (i := i) hc h)
  have HPD := hide (fun i h1 h2 => psR_deep (S := S) (i := i) hc h1 h2)
  have HPO := hide (fun h1 h2 => psR_ok (S := S) hc h1 h2)
  rw [← hA] at HPW HPD HPO ⊢
  clear hA
  have HOK := hide (fun u hu => (scan_okTk t u hu).1)
  have HTX := hide (fun u hu => (scan_okTk t u hu).2)
  have HLL := hide (scan_len t)
  have HSC := hide (fun W => sScan_any t W ht)
  have HRU := hide (d.run (unhide HOK))
  have hpc := d.cut S rfl
  have hne := d.ne S rfl
  clear d
  generalize scanR t = R at HSC hc HOK HLL HRU HTX hpc ⊢
  obtain ⟨T, cd, at_⟩ := R
  dsimp only at HSC hc HOK HLL HRU HTX hpc ⊢
  subst hc
  have HUX := hide (show unX T (QR.ok S).res = -1 from rfl)
  have hT0 : 0 < T.length := by
    cases hpc with
    | nil => exact absurd rfl hne
    | cons sc hu pc => simp; omega
  have HPC := hide hpc
  have HWS := hide hpc.sets
  have HCN := hide hpc.cnt
  have hl4 : T.length ≤ 4000 := unhide HLL
  clear hpc hne
  have B0 := ((Below.refl w.heap.size w).alloc (Nat.le_refl _) (.cells #[.slice none 0 0, .slice none 0 0] 25)).alloc (by simp) (.cells #[.int .i64 0, .int .i64 0] 28)
  have R0 := (Row.new w #[.slice none 0 0, .slice none 0 0] 25).alloc (.cells #[.int .i64 0, .int .i64 0] 28)
  have F0 := Row.new (w.alloc (.cells #[.slice none 0 0, .slice none 0 0] 25)) #[.int .i64 0, .int .i64 0] 28
  simp only [World.size_alloc] at F0
  go_enter Tryz.func4, Tryz.ntmps4
  go_wp2_with fail
  generalize hWW : (w.alloc (.cells #[.slice none 0 0, .slice none 0 0] 25)).alloc (.cells #[.int .i64 0, .int .i64 0] 28) = W at B0 R0 F0 ⊢
  have zW : W.heap.size = w.heap.size + 2 := by rw [← hWW]; simp
  clear hWW
  refine (unhide HSC W).mono ?_
  rintro r w1 ⟨xa, ca, rfl, O1, ok1, hb1⟩
  have B1 := B0.trans (hb1.mono B0.size)
  have R1 := R0.after hb1 (Nat.le_refl _)
  have F1 := F0.after hb1 (Nat.le_refl _)
  have hz1 : w.heap.size + 2 ≤ w1.heap.size := by have := hb1.size; omega
  clear B0 R0 F0 hb1 zW
  have RQ := Row.new w1 #[.int .i64 0, .int .i64 (at_ : Int)] 28
  have R2 := R1.alloc (.cells #[.int .i64 0, .int .i64 (at_ : Int)] 28)
  have F2 := F1.alloc (.cells #[.int .i64 0, .int .i64 (at_ : Int)] 28)
  have B2 := B1.alloc B1.size (.cells #[.int .i64 0, .int .i64 (at_ : Int)] 28)
  have O2 := World.ownsRow.alloc O1 (.cells #[.int .i64 0, .int .i64 (at_ : Int)] 28)
  have z2 : (w1.alloc (.cells #[.int .i64 0, .int .i64 (at_ : Int)] 28)).heap.size = w1.heap.size + 1 := by simp
  dsimp only
  go_wp2_with fail
  generalize w1.alloc (.cells #[.int .i64 0, .int .i64 (at_ : Int)] 28) = W2 at RQ R2 F2 B2 O2 z2 ⊢
  refine (unfit_any T xa ca _ W2 O2 (unhide HOK) (unhide HLL) _ (unhide HRU)).mono ?_
  rintro r w3 ⟨rfl, hb3⟩
  have R3 := R2.after hb3 (Nat.le_refl _)
  have F3 := F2.after hb3 (Nat.le_refl _)
  have B3 := B2.trans (hb3.mono B2.size)
  have O3 := ownsRow_below O2 hb3 (Nat.le_refl _)
  have hz3 : w1.heap.size + 1 ≤ w3.heap.size := by have := hb3.size; omega
  clear z2 R1 F1 R2 F2 B2 O2 RQ hb3 O1
  rw [unhide HUX]
  obtain ⟨xg, cg, hxv, hx⟩ := owns_form2 O3
  simp only [Value.slice.injEq] at hxv
  obtain ⟨rfl, _, rfl⟩ := hxv
  obtain ⟨g, rfl, hgl, hcell⟩ := hx (by omega)
  have hg3 := (O3.lt g rfl).2
  have B4 := B3.alloc B3.size (.cells #[.slice (some ⟨g, 0, none⟩) T.length ca, .slice none 0 0, .slice none 0 0] 45)
  have b4 := (Below.refl w3.heap.size w3).alloc (Nat.le_refl _) (.cells #[.slice (some ⟨g, 0, none⟩) T.length ca, .slice none 0 0, .slice none 0 0] 45)
  have N4 := Row.new w3 #[.slice (some ⟨g, 0, none⟩) T.length ca, .slice none 0 0, .slice none 0 0] 45
  have R4 := R3.after b4 (Nat.le_refl _)
  have F4 := F3.after b4 (Nat.le_refl _)
  have T4 : TkM (w3.alloc (.cells #[.slice (some ⟨g, 0, none⟩) T.length ca, .slice none 0 0, .slice none 0 0] 45)) w3.heap.size g ca T := ⟨N4.cell 0, fun j u hu => (b4.cell (p := ⟨g, j, none⟩) hg3).trans (hcell j u hu), N4.lt, Nat.lt_of_lt_of_le hg3 b4.size⟩
  have C4 : LuO (w3.alloc (.cells #[.slice (some ⟨g, 0, none⟩) T.length ca, .slice none 0 0, .slice none 0 0] 45)) w3.heap.size w3.heap.size (.slice (some ⟨g, 0, none⟩) T.length ca) [] [] (.slice none 0 0) (.slice none 0 0) [] [] := ⟨N4, OwnN.nil _ _, World.ownsRow_nil _ _ _ _, (fun q hq => by cases hq), Nat.le_refl _⟩
  have HG0 := hide (And.intro hg3 hgl)
  clear hcell hx b4 N4 R3 F3 B3 O3 hgl
  dsimp only
  go_wp2_with fail
  generalize w3.alloc (.cells #[.slice (some ⟨g, 0, none⟩) T.length ca, .slice none 0 0, .slice none 0 0] 45) = W4 at B4 R4 F4 T4 C4 ⊢
  generalize w3.heap.size = nb at *
  have HO : Hid ((wsP (S.flatMap Ps.sets)).head? = (wsP (setsT T)).head?) := hide (by rw [unhide HWS])
  generalize (wsP (S.flatMap Ps.sets)).head? = oo at HO HPW HPD HPO
  have HS := hide (show WsI T oo W4 (.int .i64 0) W4 from ⟨0, by omega, rfl, unhide HO, Below.refl _ _⟩)
  have HT4 := hide T4
  have HC4 := hide C4
  have HB4 := hide (And.intro B4 (And.intro R4 F4))
  have HZ := hide (And.intro hz1 (And.intro hz3 C4.row.lt))
  clear T4 C4 B4 R4 F4 HO HWS hz1 hz3 hg3
  go_loopw [10, 50] (fun _ vi wr => WsI T oo W4 vi wr) (fun _ vi _ => T.length - (intOf vi).toNat)
  case atStart => exact unhide HS
  case round =>
    clear HS
    obtain ⟨k, hk, rfl, hoo, B5⟩ := hrel
    by_cases hkl : k < T.length
    · have ik : (k : Int) < (T.length : Int) := by omega
      have HM := hide (lt_step T.length k hkl)
      have hdr := List.drop_eq_getElem_cons hkl
      cases hlb : see kLbr T[k]
      · have HLB := hide hlb
        have HN := hide (fun (w' : World) (hb : Below W4.heap.size W4 w') => show WsI T oo W4 (.int .i64 ((k : Int) + 1)) w' from ⟨k + 1, by omega, by rw [Int.natCast_add]; rfl, by rw [hoo, hdr, setsT_no hlb], hb⟩)
        clear hdr hoo hlb
        go_wp2_with fail
        refine (is_at (unhide HT4) B5 k hkl kLbr false (unhide HLB)).mono ?_
        rintro r w6 ⟨rfl, hb6⟩
        dsimp only
        go_wp2_with fail
        exact ⟨unhide HN _ (B5.trans (hb6.mono B5.size)), unhide HM⟩
      · have HLB := hide hlb
        have hoo2 : oo = if 64 < (srt (nmU (T.drop (k + 1)))).length then some (T[k].at_ : Int) else (wsP (setsT (T.drop (k + 1)))).head? := by
          rw [hoo, hdr, setsT, if_pos hlb, wsP_cons]
        have HOO := hide hoo2
        have HNO := hide (nmU_ok (T.drop (k + 1)) (fun x hx => unhide HTX x (List.mem_of_mem_drop hx)))
        have hnl : (nmU (T.drop (k + 1))).length ≤ 4000 := by
          have := (unhide HNO).2
          rw [List.length_drop] at this
          omega
        clear hdr hoo hlb hoo2
        go_wp2_with fail
        refine (is_at (unhide HT4) B5 k hkl kLbr true (unhide HLB)).mono ?_
        rintro r w6 ⟨rfl, hb6⟩
        have B6 := B5.trans (hb6.mono B5.size)
        dsimp only
        go_wp2_with fail
        refine (sScopes_any ((unhide HT4).below B6) hl4 k hkl).mono ?_
        rintro r w7 ⟨⟨x7, c7, rfl, ho7⟩, hb7⟩
        have B7 := B6.trans (hb7.mono B6.size)
        generalize nmU (T.drop (k + 1)) = M at HOO HNO hnl ho7 ⊢
        have hst7 := Strs.of_owns ho7 (fun j hj => by rw [nth_eq M j hj]; exact (unhide HNO).1 _ (List.getElem_mem _))
        clear ho7 hb6 hb7
        dsimp only
        go_wp2_with fail
        refine (l1sorted_any _ _ _ _ _ hst7 (by omega)).mono ?_
        rintro r w8 ⟨x8, c8, K8, rfl, ho8, hb8, hs8⟩
        have B8 := B7.trans (hb8.mono B7.size)
        have HK8 := hide (srt_is hs8)
        have hk8 : K8.length ≤ 4000 := by have := hs8.len; omega
        clear hs8 hst7 ho8 hb8 B6 B5 B7
        dsimp only
        by_cases h64 : 64 < K8.length
        · have i64 : (64 : Int) < (K8.length : Int) := by omega
          have HA := hide (unhide HPW _ (show oo = some (T[k].at_ : Int) by rw [unhide HOO, ← unhide HK8, if_pos h64]))
          obtain ⟨_, _, _, c3⟩ := ((unhide HT4).below B8).at4 k hkl
          generalize (T[k].at_ : Int) = at2 at c3 HA
          obtain ⟨Bx, Rx, Fx⟩ := unhide HB4
          have R8 := Rx.after B8 (Nat.le_refl _)
          have F8 := Fx.after B8 (Nat.le_refl _)
          have B9 := Bx.trans (B8.mono Bx.size)
          clear Bx Rx Fx
          go_wp2_with fail
          obtain ⟨⟨r0, r1⟩, rf, ⟨u0, u1⟩, uf⟩ := pf_cells R8 F8
          have n1 : w.heap.size ≠ w.heap.size + 1 := by omega
          have n2 : w.heap.size + 1 ≠ w.heap.size := by omega
          obtain ⟨RX, FX, BX⟩ := pfW_rows R8 F8 B9 (.slice none 0 0) (.slice none 0 0) (.int .i64 5) (.int .i64 at2)
          have HX := hide (And.intro RX (And.intro FX BX))
          clear RX FX BX
          go_region_law fail
          all_goals
            clear r0 r1 rf u0 u1 uf n1 n2 c3
            go_wp2_with fail
            exact bodyPost_ret (res_pf Tryz.results4 rfl rfl rfl (unhide HX).1 (unhide HX).2.1) rfl (by rw [unhide HA]; exact IpA.fault _ _ (unhide HX).2.2)
        · have i64 : ¬ ((64 : Int) < (K8.length : Int)) := by omega
          have HN := hide (show WsI T oo W4 (.int .i64 ((k : Int) + 1)) w8 from ⟨k + 1, by omega, by rw [Int.natCast_add]; rfl, by rw [unhide HOO, ← unhide HK8, if_neg h64], B8⟩)
          go_wp2_with fail
          exact ⟨unhide HN, unhide HM⟩
    · have hoo2 : oo = none := by rw [hoo, List.drop_eq_nil_of_le (by omega)]; rfl
      subst hoo2
      have ik : ¬ ((k : Int) < (T.length : Int)) := by omega
      clear HPW hoo
      have HS := hide (show PsI T S g ca nb W4 (.slice none 0 0) (.int .i64 0) wr from ⟨0, [], S, _, _, _, _, by omega, rfl, rfl, unhide HPC, rfl, World.ownsRow_nil _ _ _ _, (unhide HC4).below B5, B5.mono (by have := (unhide HZ).2.2; omega)⟩)
      clear B5 HC4 HPC hkl
      go_wp2_with fail
      go_loopw [11, 12] (fun vs vl wr => PsI T S g ca nb W4 vs vl wr) (fun _ vl _ => T.length - (intOf vl).toNat)
      case atStart => exact unhide HS
      case round =>
        clear HS
        obtain ⟨k, S1, S2, nd, pl, nv, kv, hk, rfl, hS, hPC, hsh, hOS, hC, hB⟩ := hrel
        obtain ⟨xo, co, rfl, -⟩ := owns_form2 hOS
        generalize wr = wq at *
        by_cases hkl : k < T.length
        · have ik : (k : Int) < (T.length : Int) := by omega
          obtain ⟨c, r, u, s, S3, hdr, hS2, sc, hu, pc⟩ : ∃ c r u s S3, T.drop k = c ++ u :: r ∧ S2 = s :: S3 ∧ SC c s ∧ see kSemi u = true ∧ PC r S3 := by
            generalize hdd : T.drop k = dd at hPC
            cases hPC with
            | nil => have := congrArg List.length hdd; simp at this; omega
            | cons sc hu pc => exact ⟨_, _, _, _, _, rfl, rfl, sc, hu, pc⟩
          subst hS2
          obtain ⟨hi, hhi⟩ : ∃ hi, hi = k + c.length := ⟨_, rfl⟩
          have hspn : spn T k hi = c := by rw [hhi]; exact spn_of_drop hdr
          have hhl : hi < T.length := by
            have := congrArg List.length hdr
            simp at this
            omega
          have hd1 : T.drop hi = u :: r := by rw [hhi, ← List.drop_drop, hdr]; simp
          have hd2 : T.drop (hi + 1) = r := by
            rw [List.drop_eq_getElem_cons hhl] at hd1
            injection hd1
          have hat : T[hi] = u := by
            rw [List.drop_eq_getElem_cons hhl] at hd1
            injection hd1
          have hkh : k ≤ hi := by omega
          have HSM := hide (show ∀ j, (h1 : k ≤ j) → (h2 : j < hi) → ∃ h : j < T.length, see kSemi T[j] = false from fun j h1 h2 => ⟨by omega, by
            have := spn_mem (T := T) (lo := k) (hi := hi) (k := j) (by omega) h1 h2
            rw [hspn] at this
            exact sc.free _ this⟩)
          have HAT := hide (show see kSemi T[hi] = true by rw [hat]; exact hu)
          have HK0 := hide (show T[k].at_ = s.at_ by
            obtain ⟨t0, r0, e1, e2⟩ := sc.at_eq
            rw [e1, List.cons_append, List.drop_eq_getElem_cons hkl] at hdr
            injection hdr with hdr _
            rw [hdr, e2])
          have HSC2 := hide (show SC (spn T k hi) s by rw [hspn]; exact sc)
          have HM := hide (show T.length - (intOf (.int .i64 ((hi : Int) + 1))).toNat < T.length - (intOf (.int .i64 (k : Int))).toNat by simp [intOf]; omega)
          have hcx := unhide HCN
          rw [hS, List.map_append, cntX_app, List.length_append] at hcx
          have hNL : (numN 0 (S1.map Ps.sx)).length ≤ 4000 := by rw [numN_len]; omega
          have hPL : (numP (S1.map Ps.sx)).length ≤ 4000 := by rw [numP_len]; omega
          have hSL : S1.length ≤ 4000 := by simp only [List.length_cons] at hcx; omega
          have hst := stmC_snoc (numT 0 (S1.map Ps.sx)) ⟨s.sx.kind, s.sx.name, ixO s.sx.cond (numN 0 (S1.map Ps.sx)).length, ixO s.sx.grant ((numN 0 (S1.map Ps.sx)).length + cntO s.sx.cond)⟩
          have eN := numN_snoc s.sx (S1.map Ps.sx) 0
          have eP := numP_snoc s.sx (S1.map Ps.sx)
          have eT := numT_snoc s.sx (S1.map Ps.sx) 0
          rw [Nat.zero_add, ← numN_len (S1.map Ps.sx) 0] at eN eT
          rw [← eT] at hst
          have eM : (S1 ++ [s]).map Ps.sx = S1.map Ps.sx ++ [s.sx] := by simp
          rw [← eM] at eN eP hst
          have HSH := hide (show shX (S.map Ps.sx) = if 64 < mx (dpO s.sx.cond) (dpO s.sx.grant) then some (s.at_ : Int) else shX (S3.map Ps.sx) by rw [hsh]; rfl)
          have HG := hide (show ∀ v wz nd' pl' nv' kv', ¬ 64 < mx (dpO s.sx.cond) (dpO s.sx.grant) → wz.ownsRow nb 51 4 v (S1.length + 1) (stmC (numT 0 (S1.map Ps.sx)) ++ [.int .i64 s.sx.kind, .string s.sx.name, .int .i64 (ixO s.sx.cond (numN 0 (S1.map Ps.sx)).length), .int .i64 (ixO s.sx.grant ((numN 0 (S1.map Ps.sx)).length + cntO s.sx.cond))]) → LuO wz nb nb (.slice (some ⟨g, 0, none⟩) T.length ca) (numN 0 (S1.map Ps.sx) ++ flO s.sx.cond (numN 0 (S1.map Ps.sx)).length ++ flO s.sx.grant ((numN 0 (S1.map Ps.sx)).length + cntO s.sx.cond)) (numP (S1.map Ps.sx) ++ plO s.sx.cond ++ plO s.sx.grant) nd' pl' nv' kv' → Below nb W4 wz → PsI T S g ca nb W4 v (.int .i64 ((hi : Int) + 1)) wz from fun v wz nd' pl' nv' kv' h0 h1 h2 h3 => by
            refine ⟨hi + 1, S1 ++ [s], S3, nd', pl', nv', kv', by omega, by rw [Int.natCast_add]; rfl, by rw [hS]; simp, by rw [hd2]; exact pc, by rw [unhide HSH, if_neg h0], ?_, ?_, h3⟩
            · rw [List.length_append, List.length_singleton, hst]; exact h1
            · rw [eN, eP]; exact h2)
          clear hst eN eP eT eM hsh hcx hd2 pc sc hu hat hspn hdr hd1 hS hhi HCN
          have hTw := (unhide HT4).of hC hB (unhide HG0).1
          generalize stmC (numT 0 (S1.map Ps.sx)) = A1 at hOS HG
          generalize numN 0 (S1.map Ps.sx) = M at hC HG hNL
          generalize numP (S1.map Ps.sx) = Q at hC HG hPL
          generalize S1.length = m at hOS HG hSL
          clear S1
          have HTW := hide hTw
          have HCW := hide hC
          have HOS := hide hOS
          have HBW := hide hB
          have HS2 := hide (show FrI k hi wq (.int .i64 (k : Int)) wq from ⟨k, Nat.le_refl _, hkh, rfl, Below.refl _ _⟩)
          clear hTw hC hOS hB
          go_wp2_with fail
          go_loopw [13] (fun vf w' => FrI k hi wq vf w') (fun vf _ => hi - (intOf vf).toNat)
          case atStart => exact unhide HS2
          case round =>
            clear HS2
            obtain ⟨j, h1, h2, rfl, B1⟩ := hrel
            by_cases hj : j < hi
            · obtain ⟨hjt, hjs⟩ := unhide HSM j h1 hj
              have HJS := hide hjs
              have HM2 := hide (lt_step hi j hj)
              have HN := hide (fun (w' : World) (hb : Below wq.heap.size wq w') => show FrI k hi wq (.int .i64 ((j : Int) + 1)) w' from ⟨j + 1, by omega, by omega, by rw [Int.natCast_add]; rfl, hb⟩)
              clear hjs hj
              go_wp2_with fail
              refine (is_at (unhide HTW) B1 j hjt kSemi false (unhide HJS)).mono ?_
              rintro r w5 ⟨rfl, hb5⟩
              dsimp only
              go_wp2_with fail
              exact ⟨unhide HN _ (B1.trans (hb5.mono B1.size)), unhide HM2⟩
            · have e : hi = j := by omega
              subst e
              clear hj HSM
              go_wp2_with fail
              refine (is_at (unhide HTW) B1 hi hhl kSemi true (unhide HAT)).mono ?_
              rintro r w5 ⟨rfl, hb5⟩
              have B5 := B1.trans (hb5.mono B1.size)
              have C5 := (unhide HCW).below B5
              have T5 := (unhide HTW).below B5
              have O5 := owns_blocksN (w' := w5) (unhide HOS) (fun q hq => B5.block q ((unhide HOS).lt q hq).2)
              clear hb5 B1 HAT
              dsimp only
              go_wp2_with fail
              refine (stmtM_any T5 (unhide HG0).1 hl4 (unhide HTX) C5 (by omega) (by omega) (by omega) (unhide HSC2)).mono ?_
              rintro r w6 ⟨rfl, nd6, pl6, nv6, kv6, C6, K6⟩
              have O6 := K6.stmL C5 O5
              have hnbw : nb ≤ wq.heap.size := by have := (unhide HCW).row.lt; omega
              have b6 := ((unhide HBW).trans (B5.mono hnbw)).trans K6.low
              clear C5 T5 O5 K6 B5
              generalize mx (dpO s.sx.cond) (dpO s.sx.grant) = dd at HG HSH ⊢
              generalize ixO s.sx.cond M.length = y1 at HG ⊢
              generalize ixO s.sx.grant (M.length + cntO s.sx.cond) = y2 at HG ⊢
              generalize s.sx.kind = y0 at HG ⊢
              generalize s.sx.name = yn at HG ⊢
              dsimp only
              by_cases h64 : 64 < dd
              · have HA := hide (unhide HPD _ (by first | rfl | trivial) (show shX (S.map Ps.sx) = some (s.at_ : Int) by rw [unhide HSH, if_pos h64]))
                rw [← unhide HK0] at HA
                have W6b := (Below.refl w6.heap.size w6).alloc (Nat.le_refl _) (.cells #[.int .i64 y0, .string yn, .int .i64 y1, .int .i64 y2] 51)
                obtain ⟨_, _, _, c3⟩ := (((unhide HT4).of C6 b6 (unhide HG0).1).below W6b).at4 k hkl
                generalize (T[k].at_ : Int) = at2 at c3 HA
                obtain ⟨Bx, Rx, Fx⟩ := unhide HB4
                obtain ⟨z1, z3, z4⟩ := unhide HZ
                have b7 := b6.trans (W6b.mono (by have := C6.row.lt; omega))
                have R8 : Row _ w.heap.size #[.slice none 0 0, .slice none 0 0] 25 := ⟨(b7.block _ (by omega)).trans Rx.out⟩
                have F8 : Row _ (w.heap.size + 1) #[.int .i64 0, .int .i64 0] 28 := ⟨(b7.block _ (by omega)).trans Fx.out⟩
                have B9 := Bx.trans (b7.mono (by omega))
                clear Bx Rx Fx b7 W6b z1 z3 z4 C6 O6 b6 HG
                go_wp2_with fail
                generalize w6.alloc (.cells #[.int .i64 y0, .string yn, .int .i64 y1, .int .i64 y2] 51) = w8 at c3 R8 F8 B9 ⊢
                obtain ⟨⟨r0, r1⟩, rf, ⟨u0, u1⟩, uf⟩ := pf_cells R8 F8
                have n1 : w.heap.size ≠ w.heap.size + 1 := by omega
                have n2 : w.heap.size + 1 ≠ w.heap.size := by omega
                obtain ⟨RX, FX, BX⟩ := pfW_rows R8 F8 B9 (.slice none 0 0) (.slice none 0 0) (.int .i64 6) (.int .i64 at2)
                have HX := hide (And.intro RX (And.intro FX BX))
                clear RX FX BX
                go_region_law fail
                all_goals
                  clear r0 r1 rf u0 u1 uf n1 n2 c3
                  go_wp2_with fail
                  exact bodyPost_ret (res_pf Tryz.results4 rfl rfl rfl (unhide HX).1 (unhide HX).2.1) rfl (by rw [unhide HA]; exact IpA.fault _ _ (unhide HX).2.2)
              · have Wa := (Below.refl w6.heap.size w6).alloc (Nat.le_refl _) (.cells #[.int .i64 y0, .string yn, .int .i64 y1, .int .i64 y2] 51)
                have C8 := C6.below Wa
                have O8 := World.ownsRow.alloc O6 (.cells #[.int .i64 y0, .string yn, .int .i64 y1, .int .i64 y2] 51)
                have O9 := World.ownsRow.alloc O8 (.cells #[.int .i64 y0, .string yn, .int .i64 y1, .int .i64 y2] 51)
                have NW := World.news_of_block (heap_alloc_new (w6.alloc (.cells #[.int .i64 y0, .string yn, .int .i64 y1, .int .i64 y2] 51)) (.cells #[.int .i64 y0, .string yn, .int .i64 y1, .int .i64 y2] 51))
                have z9 : (w6.alloc (.cells #[.int .i64 y0, .string yn, .int .i64 y1, .int .i64 y2] 51)).heap.size = w6.heap.size + 1 := by simp
                rw [z9] at NW
                clear z9
                have hn6 : nb < w6.heap.size := C6.row.lt
                have b8 := b6.trans (Wa.mono (by omega))
                have z8 : w6.heap.size ≤ (w6.alloc (.cells #[.int .i64 y0, .string yn, .int .i64 y1, .int .i64 y2] 51)).heap.size := Wa.size
                clear Wa b6 C6
                obtain ⟨ie, hie, ez0, ez1, ez2⟩ := info_parts infoStt
                go_wp2_with (at_builtin; refine wpList_append_lies _ rfl _ _ 23 rfl nb 51 ie (.agg #[.int .i64 0, .string ByteArray.empty, .int .i64 0, .int .i64 0]) 4 40 Tryz.underlying23 hie ez0 ez1 ez2 rfl (by decide) (.slice xo m co) m A1 rfl O9 ⟨w6.heap.size + 1, 0, none⟩ 1 1 [.int .i64 y0, .string yn, .int .i64 y1, .int .i64 y2] rfl rfl NW ?q2 (by decide) ?q3 ?q4 ?q5 _ rfl ?_)
                case q2 => first | exact ⟨rfl, rfl, rfl, rfl⟩ | (intro u hu; simp at hu; rcases hu with rfl | rfl | rfl | rfl <;> rfl)
                case q3 => unfold maxLen; omega
                case q4 => omega
                case q5 => first | omega | (simp; omega)
                intro g9 c9 w9 O10 hgrow hat hlt
                have hk9 := grow_keep hgrow
                have C9 := C8.other O8 hk9
                have b9 := (b8.alloc (by omega) (.cells #[.int .i64 y0, .string yn, .int .i64 y1, .int .i64 y2] 51)).grown hgrow (by simp; omega) (fun q hq => (O8.lt q hq).1)
                have HN := hide (unhide HG _ _ _ _ _ _ h64 O10 C9 b9)
                clear hk9 C9 b9 O10 hgrow hat hlt O9 O8 C8 NW b8 O6
                go_wp2_with fail
                exact ⟨unhide HN, unhide HM⟩
        · have hS2 : S2 = [] := by
            rw [List.drop_eq_nil_of_le (by omega)] at hPC
            generalize hdd : ([] : List Tok) = dd at hPC
            cases hPC with
            | nil => rfl
            | @cons c r => have := congrArg List.length hdd; simp at this
          subst hS2
          rw [List.append_nil] at hS
          subst hS
          have HA := hide (unhide HPO (by first | rfl | trivial) (show shX (S.map Ps.sx) = none by rw [hsh]; rfl))
          have HLT := hide (show (numT 0 (S.map Ps.sx)).length = S.length by rw [numT_len, List.length_map])
          have ik : ¬ ((k : Int) < (T.length : Int)) := by omega
          obtain ⟨xn, cn, rfl, -⟩ := owns_form2 hC.nodes.own
          obtain ⟨xp, cp, rfl, -⟩ := owns_form2 hC.places
          obtain ⟨Bx, Rx, Fx⟩ := unhide HB4
          obtain ⟨z1, z3, z4⟩ := unhide HZ
          have R8 : Row wq w.heap.size #[.slice none 0 0, .slice none 0 0] 25 := ⟨(hB.block _ (by omega)).trans Rx.out⟩
          have F8 : Row wq (w.heap.size + 1) #[.int .i64 0, .int .i64 0] 28 := ⟨(hB.block _ (by omega)).trans Fx.out⟩
          have B9 := Bx.trans (hB.mono (by omega))
          have d1 : wq.cell? ⟨nb, 1, none⟩ = some _ := hC.row.cell 1
          have d2 : wq.cell? ⟨nb, 2, none⟩ = some _ := hC.row.cell 2
          have n3 : nb ≠ w.heap.size := by omega
          have n4 : nb ≠ w.heap.size + 1 := by omega
          have HCW := hide hC
          have HOS := hide hOS
          generalize (numN 0 (S.map Ps.sx)) = M at *
          generalize (numP (S.map Ps.sx)) = Q at *
          generalize (numT 0 (S.map Ps.sx)) = L at *
          clear hC hOS hB Bx Rx Fx hsh hPC hkl
          go_wp2_with fail
          obtain ⟨⟨r0, r1⟩, rf, ⟨u0, u1⟩, uf⟩ := pf_cells R8 F8
          have n1 : w.heap.size ≠ w.heap.size + 1 := by omega
          have n2 : w.heap.size + 1 ≠ w.heap.size := by omega
          obtain ⟨RX, FX, BX⟩ := pfW_rows R8 F8 B9 (.slice xn M.length cn) (.slice xo S.length co) (.int .i64 0) (.int .i64 0)
          have HX := hide (And.intro RX (And.intro FX BX))
          clear RX FX BX
          go_region_law fail
          all_goals
            clear r0 r1 rf u0 u1 uf n1 n2 d1 d2 n3 n4
            go_wp2_with fail
            exact bodyPost_ret (res_pf Tryz.results4 rfl rfl rfl (unhide HX).1 (unhide HX).2.1) rfl (by rw [unhide HA]; exact IpA.good (unhide HCW) (by rw [unhide HLT]; exact unhide HOS) (by have := unhide HZ; omega) _ _ _ _ rfl (unhide HX).2.2)


theorem sParse_any (t : ByteArray) (x : QR) (d : DP (scanR t).toks x) (w : World) (ht : t.size ≤ 1048576) :
    Calls Tryz.prog 4 #[.string t] w (IpA (psR t x) w) := by
  by_cases hc : (scanR t).code = 0
  · cases x with
    | ok S => exact sParse_ok t S w ht hc d
    | bad q => exact sParse_bad t q w ht hc d
  · exact sParse_scan t x w ht hc

end Go.Proofs.YtcehablmloleaaaGreatDoor

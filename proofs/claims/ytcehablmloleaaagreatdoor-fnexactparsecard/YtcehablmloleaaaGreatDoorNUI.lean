/-
  Numbering: number. Own work.
-/
import Derived.Test.YtcehablmloleaaaGreatDoorMXAL
namespace Go.Proofs.YtcehablmloleaaaGreatDoor
open Go.RowKit
set_option linter.unusedVariables false

theorem infoStt : (Tryz.prog.info? 51).map (fun i => (i.zero, i.size, i.bytes)) = some (some (.agg #[.int .i64 0, .string ByteArray.empty, .int .i64 0, .int .i64 0]), 4, 40) := by kernel_rfl

/-- what is said of the statements, numbered -/
def NumA (S : List Sx) (w : World) (r : Ending) (w' : World) : Prop :=
  (∃ nd pl nv kv sv, r = .returned (.tuple #[.agg #[nd, sv], pl]) ∧ OwnN w' w.heap.size nd (numN 0 S) nv kv ∧ w'.ownsRow w.heap.size 51 4 sv S.length (stmC (numT 0 S)) ∧ w'.ownsRow w.heap.size 3 1 pl (numP S).length (intsV (numP S)) ∧ (∀ q, pl.ownBlock = some q → ∀ j, (hj : j < kv.length) → kv[j].ownBlock ≠ some q)) ∧ Below w.heap.size w w'

theorem optX_one (o : Option Ex) : (optX o).oneCell' = true := by
  cases o with
  | none => rfl
  | some e => obtain ⟨t, u, h⟩ := Ex.form e; rw [optX, h]; rfl

set_option maxHeartbeats 3200000 in
set_option maxRecDepth 100000 in
theorem number_any (S : List Sx) (g m c : Nat) (cur : Array Value) (w : World) (hm : S.length = m) (R : Row w g cur 111) (hcur : ∀ (r : Nat) (u : Value), (sxC S)[r]? = some u → cur[r]? = some u) (hS : ∀ x ∈ S, sokO w x.cond ∧ sokO w x.grant) (hcn : cntX S ≤ 65535) (hms : m ≤ 65535) :
    Calls Tryz.prog 36 #[.slice (some ⟨g, 0, none⟩) m c] w (NumA S w) := by
  have HM := hide hm
  have HCU := hide hcur
  have HCN := hide hcn
  have HS := hide hS
  obtain ⟨ie, hie, ez0, ez1, ez2⟩ := info_parts infoStt
  have A0 := (Below.refl w.heap.size w).alloc (Nat.le_refl _) (.cells #[.slice none 0 0, .slice none 0 0] 25)
  have A1 := A0.alloc A0.size (.cells #[.slice none 0 0, .slice none 0 0] 116)
  have P0 := (Row.new w #[.slice none 0 0, .slice none 0 0] 25).alloc (.cells #[.slice none 0 0, .slice none 0 0] 116)
  have RN := Row.new (w.alloc (.cells #[.slice none 0 0, .slice none 0 0] 25)) #[.slice none 0 0, .slice none 0 0] 116
  simp only [World.size_alloc] at RN
  have N0 : NuO ((w.alloc (.cells #[.slice none 0 0, .slice none 0 0] 25)).alloc (.cells #[.slice none 0 0, .slice none 0 0] 116)) w.heap.size (w.heap.size + 1) [] [] (.slice none 0 0) (.slice none 0 0) [] [] := ⟨RN, OwnN.nil _ _, World.ownsRow_nil _ _ _ _, (fun q hq => by cases hq), Nat.le_succ _⟩
  have hnm : (Tryz.f63.name == "runtime.NumGoroutine") = false := by kernel_rfl
  have hbd : Tryz.f63.body.isNone = false := by kernel_rfl
  clear hm hcur hcn hS RN
  go_enter Tryz.func36, Tryz.ntmps36
  go_wp2_with fail
  go_loopw [5, 11] (fun v i wr => ∃ (k : Nat) (nd pl : Value) (nv kv : List Value), k ≤ m ∧ i = .int .i64 k ∧ wr.ownsRow w.heap.size 51 4 v k (stmC (numT 0 (S.take k))) ∧ NuO wr w.heap.size (w.heap.size + 1) (numN 0 (S.take k)) (numP (S.take k)) nd pl nv kv ∧ Row wr w.heap.size #[.slice none 0 0, .slice none 0 0] 25 ∧ Below w.heap.size w wr) (fun _ i _ => m - (intOf i).toNat)
  case atStart => exact ⟨0, _, _, _, _, by omega, rfl, World.ownsRow_nil _ _ _ _, N0, P0, A1⟩
  case round =>
    obtain ⟨k, nd, pl, nv, kv, hk, rfl, O1, C1, PR, D1⟩ := hrel
    by_cases hlt : k < m
    · have ilt : (k : Int) < (m : Int) := by omega
      have hkl : k < S.length := by rw [unhide HM]; exact hlt
      have R1 := R.after D1 (Nat.le_refl _)
      have at5 : ∀ r, r < 5 → ∀ u, (sxV S[k])[r]? = some u → wr.cell? ⟨g, k * 5 + r, none⟩ = some u := fun r hr u hu => by
        rw [R1.cell]
        refine unhide HCU _ _ ?_
        rw [sxC_at S k hkl r hr]
        exact hu
      have c0 := at5 0 (by decide) _ rfl
      have c1 := at5 1 (by decide) _ rfl
      have c2 := at5 2 (by decide) _ rfl
      have c3 := at5 3 (by decide) _ rfl
      have c4 := at5 4 (by decide) _ rfl
      simp only [Nat.add_zero] at c0
      have eS : S.take (k + 1) = S.take k ++ [S[k]] := List.take_succ_eq_append_getElem hkl
      have eL : (S.take k).length = k := by rw [List.length_take]; omega
      have hcx : cntX (S.take k) + (cntO S[k].cond + cntO S[k].grant) ≤ 65535 := by
        have h1 := unhide HCN
        have h2 : S = S.take (k + 1) ++ S.drop (k + 1) := (List.take_append_drop _ _).symm
        rw [h2, eS, cntX_app, cntX_app, cntX_cons] at h1
        omega
      have eN := numN_snoc S[k] (S.take k) 0
      have eP := numP_snoc S[k] (S.take k)
      have eT := numT_snoc S[k] (S.take k) 0
      rw [← eS] at eN eP eT
      rw [Nat.zero_add, ← numN_len (S.take k) 0] at eN eT
      have hcN : (numN 0 (S.take k)).length + (cntO S[k].cond + cntO S[k].grant) ≤ 65535 := by rw [numN_len]; exact hcx
      have hcP : (numP (S.take k)).length + (cntO S[k].cond + cntO S[k].grant) ≤ 65535 := by rw [numP_len]; exact hcx
      have eC := stmC_snoc (numT 0 (S.take k)) ⟨S[k].kind, S[k].name, ixO S[k].cond (numN 0 (S.take k)).length, ixO S[k].grant ((numN 0 (S.take k)).length + cntO S[k].cond)⟩
      rw [← eT] at eC
      have HE := hide (And.intro eN (And.intro eP eC))
      obtain ⟨hs1, hs2⟩ := unhide HS S[k] (List.getElem_mem hkl)
      have HS12 := hide (And.intro hs1 hs2)
      have Hlt := hide hlt
      have gl := R1.lt
      clear at5 eN eP eT eC eS eL hcx hs1 hs2 hlt
      generalize S[k] = x at c0 c1 c2 c3 c4 hcN hcP HE HS12
      dsimp only at HE
      have HG := hide (show ∀ v wz nd' pl' nv' kv', wz.ownsRow w.heap.size 51 4 v (k + 1) (stmC (numT 0 (S.take k)) ++ [.int .i64 x.kind, .string x.name, .int .i64 (ixO x.cond (numN 0 (S.take k)).length), .int .i64 (ixO x.grant ((numN 0 (S.take k)).length + cntO x.cond))]) → NuO wz w.heap.size (w.heap.size + 1) (numN 0 (S.take k) ++ flO x.cond (numN 0 (S.take k)).length ++ flO x.grant ((numN 0 (S.take k)).length + cntO x.cond)) (numP (S.take k) ++ plO x.cond ++ plO x.grant) nd' pl' nv' kv' → wz.ownsRow w.heap.size 51 4 v (k + 1) (stmC (numT 0 (S.take (k + 1)))) ∧ NuO wz w.heap.size (w.heap.size + 1) (numN 0 (S.take (k + 1))) (numP (S.take (k + 1))) nd' pl' nv' kv' from fun v wz nd' pl' nv' kv' h1 h2 => by
        obtain ⟨e1, e2, e3⟩ := unhide HE
        rw [e1, e2, e3]
        exact ⟨h1, h2⟩)
      generalize stmC (numT 0 (S.take k)) = A1 at O1 HG
      generalize numN 0 (S.take k) = M at C1 HG hcN hcP HE
      generalize numP (S.take k) = Q at C1 HG hcN hcP HE
      clear HE hkl
      obtain ⟨q3, hq3⟩ : ∃ v, v = optX x.cond := ⟨_, rfl⟩
      obtain ⟨q4, hq4⟩ : ∃ v, v = optX x.grant := ⟨_, rfl⟩
      rw [← hq3] at c3
      rw [← hq4] at c4
      have Da := D1.alloc D1.size (.cells #[.int .i64 x.at', .int .i64 x.kind, .string x.name, q3, q4] 111)
      have Db := (Below.refl wr.heap.size wr).alloc (Nat.le_refl _) (.cells #[.int .i64 x.at', .int .i64 x.kind, .string x.name, q3, q4] 111)
      have RS := Row.new wr #[.int .i64 x.at', .int .i64 x.kind, .string x.name, q3, q4] 111
      have HA1 := hide (addO w.heap.size (w.heap.size + 1) w (Nat.le_refl _) x.cond (unhide HS12).1 M Q nd pl nv kv _ Da (C1.below Db) (by omega) (by omega))
      have HA2 := hide (fun nd pl nv kv W (hW : Below w.heap.size w W) h => addO w.heap.size (w.heap.size + 1) w (Nat.le_refl _) x.grant (unhide HS12).2 (M ++ flO x.cond M.length) (Q ++ plO x.cond) nd pl nv kv W hW h (by rw [List.length_append, flO_len]; omega) (by rw [List.length_append, plO_len]; omega))
      have eLen : (M ++ flO x.cond M.length).length = M.length + cntO x.cond := by rw [List.length_append, flO_len]
      rw [eLen] at HA2
      rw [← hq3] at HA1
      rw [← hq4] at HA2
      have f3 := optX_one x.cond
      have f4 := optX_one x.grant
      rw [← hq3] at f3
      rw [← hq4] at f4
      have O2 := World.ownsRow.alloc O1 (.cells #[.int .i64 x.at', .int .i64 x.kind, .string x.name, q3, q4] 111)
      have C2 := C1.below Db
      have PR2 := PR.after Db (Nat.le_refl _)
      clear hq3 hq4 Db eLen
      go_wp2_with fail
      rw [run_store _ _ _ _ _ f3]
      go_simp
      rw [run_store _ _ _ _ _ f4]
      go_simp
      go_wp2_with fail
      refine (unhide HA1).mono ?_
      rintro r w2 ⟨rfl, nd2, pl2, nx2, kx2, C3, K3⟩
      have RS3 := K3.row C2 RS (by decide) (by decide) (by decide)
      have PR3 := K3.row C2 PR2 (by decide) (by decide) (by decide)
      have O3 := K3.stm C2 O2
      have D3 := Da.trans K3.low
      clear K3 C2 RS PR2 O2 Da HA1 c0 c1 c2 c3 c4
      generalize ixO x.cond M.length = y1 at HG ⊢
      generalize ixO x.grant (M.length + cntO x.cond) = y2 at HG HA2
      obtain ⟨xo, co, rfl, _⟩ := owns_form2 O3
      have C4 := C3.below (drewB w2)
      have RS4 := RS3.after (drewB w2) (Nat.le_refl _)
      have PR4 := PR3.after (drewB w2) (Nat.le_refl _)
      have O4 := owns_blocksN (w' := w2.drew) O3 (fun q hq => rfl)
      have D4 := D3.trans ((drewB w2).mono D3.size)
      have HC := hide ((unhide HA2 _ _ _ _ _ D4 C4).mono (R' := fun e w' => ∃ v, e = .returned v ∧ (v = .int .i64 y2 ∧ ∃ nd' pl' nv' kv', NuO w' w.heap.size (w.heap.size + 1) (M ++ flO x.cond M.length ++ flO x.grant (M.length + cntO x.cond)) (Q ++ plO x.cond ++ plO x.grant) nd' pl' (nv ++ nx2 ++ nv') (kv ++ kx2 ++ kv') ∧ Nk w.heap.size (w.heap.size + 1) nd2 pl2 w2.drew nd' pl' w')) (fun r w' h => ⟨_, h.1, rfl, h.2⟩))
      have b1 : w2.drew.cell? ⟨wr.heap.size, 1, none⟩ = some (.int .i64 x.kind) := RS4.cell 1
      have b2 : w2.drew.cell? ⟨wr.heap.size, 2, none⟩ = some (.string x.name) := RS4.cell 2
      have b4 : w2.drew.cell? ⟨wr.heap.size, 4, none⟩ = some q4 := RS4.cell 4
      clear C3 RS3 PR3 O3 D3 HA2
      dsimp only
      go_wp2_with fail
      apply cutC
      · intro HBX
        go_region_law (first
          | (refine step_callR2 rfl 63 _ Tryz.func63 hnm hbd _ _ _ rfl (.pointer (some ⟨w.heap.size + 1, 0, none⟩)) q4 rfl rfl _ (unhide HC) ?_; rintro v5 w5 ⟨rfl, nd5, pl5, nx5, kx5, C5, K5⟩; have RS5 := K5.row C4 RS4 (by decide) (by decide) (by decide); have PR5 := K5.row C4 PR4 (by decide) (by decide) (by decide); have O5 := K5.stm C4 O4; have D5 := D4.trans K5.low; have a1 : w5.cell? ⟨wr.heap.size, 1, none⟩ = some (.int .i64 x.kind) := RS5.cell 1; have a2 : w5.cell? ⟨wr.heap.size, 2, none⟩ = some (.string x.name) := RS5.cell 2; have NW5 := World.news_of_block (heap_alloc_new w5 (.cells #[.int .i64 x.kind, .string x.name, .int .i64 y1, .int .i64 y2] 51)); have O6 := World.ownsRow.alloc O5 (.cells #[.int .i64 x.kind, .string x.name, .int .i64 y1, .int .i64 y2] 51))
          | (refine step_append_lies _ rfl _ _ 23 rfl w.heap.size 51 ie (.agg #[.int .i64 0, .string ByteArray.empty, .int .i64 0, .int .i64 0]) 4 40 Tryz.underlying23 hie ez0 ez1 ez2 rfl (by decide) (.slice xo k co) k A1 rfl O6 ⟨w5.heap.size, 0, none⟩ 1 1 [.int .i64 x.kind, .string x.name, .int .i64 y1, .int .i64 y2] rfl rfl NW5 (by intro u hu; simp at hu; rcases hu with rfl | rfl | rfl | rfl <;> rfl) (by decide) (by unfold maxLen; omega) (by omega) (by have := D5.size; simp; omega) _ rfl ?_; intro g7 c7 w7 O7 hgrow hat hlt))
        all_goals
          have hk7 := grow_keep hgrow
          have C7 := C5.other O5 hk7
          have PR7 : Row w7 w.heap.size #[.slice none 0 0, .slice none 0 0] 25 := ⟨(hk7 _ PR5.lt (own_ne_row PR5 O5 (by decide))).trans PR5.out⟩
          have D7 := (D5.alloc D5.size (.cells #[.int .i64 x.kind, .string x.name, .int .i64 y1, .int .i64 y2] 51)).grown hgrow (by have := D5.size; simp; omega) (fun q hq => (O5.lt q hq).1)
          have FC := hide (And.intro (unhide HG _ _ _ _ _ _ O7 C7) (And.intro PR7 D7))
          clear hk7 C7 PR7 D7 O7 hgrow hat hlt NW5 O6 O5 a1 a2 D5 RS5 PR5 C5 K5
          generalize w5.heap.size = h5
          revert FC
          revert kx5
          revert nx5
          revert pl5
          revert nd5
          revert w7
          revert c7
          revert g7
          revert h5
          exact HBX.out
      intro h5 g7 c7 w7 nd5 pl5 nx5 kx5 FC
      clear b1 b2 b4 C4 RS4 PR4 O4 D4 HC
      go_wp2_with fail
      go_roundw
      case rel => exact ⟨k + 1, nd5, pl5, _, _, unhide Hlt, by go_num, (unhide FC).1.1, (unhide FC).1.2, (unhide FC).2.1, (unhide FC).2.2⟩
      case measure => have := unhide Hlt; simp [intOf]; omega
    · have e : k = m := by omega
      subst e
      have eT : S.take k = S := by rw [← unhide HM, List.take_length]
      rw [eT] at O1 C1
      obtain ⟨xo, co, rfl, _⟩ := owns_form2 O1
      obtain ⟨xn, cn, rfl, _⟩ := owns_form2 C1.nodes.own
      obtain ⟨xp, cp, rfl, _⟩ := owns_form2 C1.places
      have C2 := C1.below (drewB wr)
      have PR2 := PR.after (drewB wr) (Nat.le_refl _)
      have O2 := owns_blocksN (w' := wr.drew) O1 (fun q hq => rfl)
      have D2 := D1.trans ((drewB wr).mono D1.size)
      have s0 : wr.drew.cell? ⟨w.heap.size + 1, 0, none⟩ = some (.slice xn (numN 0 S).length cn) := C2.row.cell 0
      have s1 : wr.drew.cell? ⟨w.heap.size + 1, 1, none⟩ = some (.slice xp (numP S).length cp) := C2.row.cell 1
      have p0 : wr.drew.cell? ⟨w.heap.size, 0, none⟩ = some (.slice none 0 0) := PR2.cell 0
      have p1 : wr.drew.cell? ⟨w.heap.size, 1, none⟩ = some (.slice none 0 0) := PR2.cell 1
      have pf0 := PR2.frozen 0
      have pf1 := PR2.frozen 1
      have PR3 := PR2.set 0 (.slice xn (numN 0 S).length cn)
      have q0 : (wr.drew.setCell ⟨w.heap.size, 0, none⟩ (.slice xn (numN 0 S).length cn)).cell? ⟨w.heap.size, 1, none⟩ = some (.slice none 0 0) := PR3.cell 1
      have qf0 := PR3.frozen 1
      have s2 : wr.cell? ⟨w.heap.size + 1, 0, none⟩ = some (.slice xn (numN 0 S).length cn) := C1.row.cell 0
      have s3 : wr.cell? ⟨w.heap.size + 1, 1, none⟩ = some (.slice xp (numP S).length cp) := C1.row.cell 1
      have p2 : wr.cell? ⟨w.heap.size, 0, none⟩ = some (.slice none 0 0) := PR.cell 0
      have p3 : wr.cell? ⟨w.heap.size, 1, none⟩ = some (.slice none 0 0) := PR.cell 1
      have pf2 := PR.frozen 0
      have pf3 := PR.frozen 1
      clear q0 qf0
      go_wp2_with fail
      go_region_law fail
      all_goals
        have hz : ∀ q, q ≠ w.heap.size → ((wr.setCell ⟨w.heap.size, 0, none⟩ (.slice xn (numN 0 S).length cn)).setCell ⟨w.heap.size, 1, none⟩ (.slice xo k co)).heap[q]? = wr.heap[q]? := fun q hq => (heap_setCell_other _ ⟨w.heap.size, 1, none⟩ q _ hq).trans (heap_setCell_other wr ⟨w.heap.size, 0, none⟩ q _ hq)
        have PRz := (PR.set 0 (.slice xn (numN 0 S).length cn)).set 1 (.slice xo k co)
        have z0 : ((wr.setCell ⟨w.heap.size, 0, none⟩ (.slice xn (numN 0 S).length cn)).setCell ⟨w.heap.size, 1, none⟩ (.slice xo k co)).cell? ⟨w.heap.size, 0, none⟩ = some (.slice xn (numN 0 S).length cn) := PRz.cell 0
        have z1 : ((wr.setCell ⟨w.heap.size, 0, none⟩ (.slice xn (numN 0 S).length cn)).setCell ⟨w.heap.size, 1, none⟩ (.slice xo k co)).cell? ⟨w.heap.size, 1, none⟩ = some (.slice xo k co) := PRz.cell 1
        have Dz := (D1.setCell (p := ⟨w.heap.size, 0, none⟩) (Nat.le_refl _) (.slice xn (numN 0 S).length cn)).setCell (p := ⟨w.heap.size, 1, none⟩) (Nat.le_refl _) (.slice xo k co)
        have Nz := C1.nodes.upto (fun q hq => hz q (fun e => own_ne_row PR C1.nodes.own (by decide) (by rw [hq, e]))) (fun j hj q hq => hz q (fun e => own_ne_row PR (C1.nodes.names j (by rw [← C1.nodes.len]; exact hj) hj) (by decide) (by rw [hq, e]))) (fun j hj q hq => hz q (fun e => own_ne_row PR (C1.nodes.kids j (by rw [← C1.nodes.lenk]; exact hj) hj) (by decide) (by rw [hq, e])))
        have Oz := owns_blocksN O1 (fun q hq => hz q (fun e => own_ne_row PR O1 (by decide) (by rw [hq, e])))
        have Lz := owns_blocksN C1.places (fun q hq => hz q (fun e => own_ne_row PR C1.places (by decide) (by rw [hq, e])))
        have Az := C1.apart
        clear hz PRz s0 s1 s2 s3 p0 p1 p2 p3 pf0 pf1 pf2 pf3 PR3 PR2 C2 O2 D2
        generalize (wr.setCell ⟨w.heap.size, 0, none⟩ (.slice xn (numN 0 S).length cn)).setCell ⟨w.heap.size, 1, none⟩ (.slice xo k co) = wz at z0 z1 Dz Nz Oz Lz ⊢
        go_wp2_with fail
        refine bodyPost_ret (v := .tuple #[.agg #[.slice xn (numN 0 S).length cn, .slice xo k co], .slice xp (numP S).length cp]) (by simp [results, Tryz.results36, go_sem, z0, z1]) rfl ⟨⟨_, _, nv, kv, _, rfl, ?_, ?_, ?_, Az⟩, ?_⟩
        · exact Nz.blocks (fun q _ _ => rfl)
        · rw [unhide HM]; exact owns_blocksN Oz (fun q hq => rfl)
        · exact owns_blocksN Lz (fun q hq => rfl)
        · exact Dz.trans ((drewB wz).mono Dz.size)

end Go.Proofs.YtcehablmloleaaaGreatDoor

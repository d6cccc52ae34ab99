/-
  Scripts: the model reads one. Own work.
-/
import Derived.Test.YthdoakeocaegkaaDoorXF
import Derived.Test.YthdoakeocaegkaaDoorSPL
namespace Go.Proofs.YthdoakeocaegkaaDoor
open Go.RowKit
set_option linter.unusedVariables false

set_option maxRecDepth 100000 in
set_option maxHeartbeats 3200000 in
theorem sScript_any (s : ByteArray) (w : World) (hs : s.size ≤ 1048576) :
    Calls Tryd.prog 4 #[.string s] w fun e w' => ScA w (scriptR (toL s)) e w' := by
  have hl := toL_size s
  by_cases h6 : 60000 < s.size
  · have HX := hide (show scriptR (toL s) = none by unfold scriptR; rw [if_pos (by omega)])
    have i6 : (60000 : Int) < (s.size : Int) := by omega
    rw [unhide HX]
    clear hl h6
    go_enter Tryd.func4, Tryd.ntmps4
    go_wp2_with fail
    go_ret2
    exact ⟨Below.refl _ _, rfl⟩
  · have i6 : ¬ ((60000 : Int) < (s.size : Int)) := by omega
    have HX := hide (show scriptR (toL s) = if 400 < (linesL (toL s)).length then none else some ((linesL (toL s)).map opL) by unfold scriptR; rw [if_neg (by omega)])
    have Hsz := hide (show ∀ x ∈ linesL (toL s), x.length ≤ 1048576 from fun x hx => by
      have hx' : x ∈ splitC 10 (toL s) := by
        unfold linesL at hx
        split at hx
        · exact List.dropLast_subset _ hx
        · exact hx
      have := splitC_le hx'
      omega)
    have HSP := hide (l1split_any s 10 w hs)
    have hz := splitC_len 10 (toL s)
    have hne := splitC_ne 10 (toL s)
    rw [unhide HX]
    unfold linesL at Hsz ⊢
    unfold SplAns at HSP
    generalize splitC 10 (toL s) = PP at HSP hz hne Hsz
    obtain ⟨LL, HLL⟩ : ∃ LL, LL = (if PP.getLast? = some [] then PP.dropLast else PP) := ⟨_, rfl⟩
    rw [← HLL] at Hsz ⊢
    obtain ⟨kk, hkk⟩ : ∃ kk, PP.length = kk + 1 := ⟨PP.length - 1, by have : 0 < PP.length := List.length_pos_iff.2 hne; omega⟩
    have hkl : kk < PP.length := by omega
    have hlast : PP.getLast? = some PP[kk] := by rw [List.getLast?_eq_getElem?, hkk, Nat.add_sub_cancel, List.getElem?_eq_getElem hkl]
    have hk2 : kk ≤ 1048576 := by omega
    have iz : ((kk + 1 : Nat) : Int) - 1 = (kk : Int) := by omega
    have ik : (kk : Int) < ((kk + 1 : Nat) : Int) := by omega
    rw [hkk] at HSP
    have Hkk := hide hkk
    obtain ⟨N, hN, hNc⟩ : ∃ N, LL.length = N ∧ ((PP[kk] = [] ∧ N = kk ∧ LL = PP.take kk) ∨ (PP[kk] ≠ [] ∧ N = kk + 1 ∧ LL = PP)) := by
      refine ⟨LL.length, rfl, ?_⟩
      rw [hlast] at HLL
      by_cases hl : PP[kk] = []
      · left
        rw [hl, if_pos rfl, List.dropLast_eq_take, hkk, Nat.add_sub_cancel] at HLL
        exact ⟨hl, by rw [HLL]; simp; omega, HLL⟩
      · right
        rw [if_neg (fun e => hl (Option.some.inj e))] at HLL
        exact ⟨hl, by rw [HLL, hkk], HLL⟩
    have HN := hide hN
    have HNc := hide hNc
    have Hkl := hide hkl
    obtain ⟨RR, HRR⟩ : ∃ RR, RR = (if 400 < LL.length then none else some (LL.map opL)) := ⟨_, rfl⟩
    rw [← HRR]
    have HRR' := hide HRR
    clear hl h6 HX HLL HRR hlast hkk hN hNc hne hz
    go_enter Tryd.func4, Tryd.ntmps4
    go_wp2_with fail
    refine (unhide HSP).mono ?_
    rintro e w1 ⟨xp, cp, rfl, owp, hb1⟩
    obtain ⟨g, hg, hcap⟩ : ∃ g, xp = some ⟨g, 0, none⟩ ∧ kk + 1 ≤ cp := by
      rcases owp.2 with ⟨_, h0⟩ | ⟨g, cap, cur, hv, _, _, h1, _⟩
      · omega
      · simp only [Value.slice.injEq] at hv
        exact ⟨g, hv.1, by rw [hv.2.2]; exact h1⟩
    subst hg
    have hcell : ∀ j, (h : j < PP.length) → w1.cell? ⟨g, j, none⟩ = some (.string (ofL PP[j])) := fun j h => by
      rw [owp.cellAt j (by have := unhide Hkk; omega)]
      simp [h]
    have hgl := (owp.lt g rfl).2
    have ck := hcell kk (unhide Hkl)
    have HCl := hide hcell
    have HB1 := hide hb1
    have ic : (kk : Int) ≤ (cp : Int) := by omega
    have ic0 : (0 : Int) ≤ (kk : Int) := by omega
    have HSA := hide (show SA w1 g (LL.map ofL) from ⟨hgl, fun j hj => by
      rw [List.length_map] at hj
      rcases unhide HNc with ⟨_, _, e⟩ | ⟨_, _, e⟩
      · subst e
        rw [List.length_take] at hj
        rw [unhide HCl j (by omega)]
        simp
      · subst e
        rw [unhide HCl j hj]
        simp⟩)
    obtain ⟨SS, HSS⟩ : ∃ SS, SS = LL.map ofL := ⟨_, rfl⟩
    have hlen : SS.length = N := by rw [HSS, List.length_map]; exact unhide HN
    rw [← HSS] at HSA
    have HSS' := hide HSS
    have Hlen0 := hide hlen
    have Hlen := hide (show SS.length = LL.length by rw [HSS]; simp)
    clear hcell owp hb1 hgl HSS hlen
    have hcase : (((ofL (PP[kk]'(unhide Hkl))).toList == []) = true ∧ N = kk) ∨ (((ofL (PP[kk]'(unhide Hkl))).toList == []) = false ∧ N = kk + 1) := by
      rcases unhide HNc with ⟨e, h, _⟩ | ⟨e, h, _⟩
      · left
        refine ⟨?_, h⟩
        rw [e, ByteArray.toList_eq]
        rfl
      · right
        refine ⟨?_, h⟩
        rw [beq_eq_false_iff_ne, ByteArray.toList_eq]
        show toL (ofL _) ≠ []
        rw [toL_ofL]
        exact e
    generalize ofL (PP[kk]'(unhide Hkl)) = lv at ck hcase
    by_cases h4 : 400 < N
    · have HE := hide (show RR = none by rw [unhide HRR', unhide HN, if_pos h4])
      have HB := hide (unhide HB1)
      rcases hcase with ⟨eb, en⟩ | ⟨eb, en⟩
      · have i4 : (400 : Int) < (kk : Int) := by omega
        clear h4 en
        go_wp2_with fail
        go_ret2
        rw [unhide HE]
        exact ⟨unhide HB, rfl⟩
      · have i4 : (400 : Int) < (kk : Int) + 1 := by omega
        clear h4 en
        go_wp2_with fail
        go_ret2
        rw [unhide HE]
        exact ⟨unhide HB, rfl⟩
    · have HE := hide (show RR = some (LL.map opL) by rw [unhide HRR', unhide HN, if_neg h4])
      have h400 : N ≤ 400 := by omega
      rcases hcase with ⟨eb, en⟩ | ⟨eb, en⟩
      · obtain ⟨NN, hNN⟩ : ∃ NN, NN = kk := ⟨_, rfl⟩
        have HNN := hide (show SS.length = NN by rw [unhide Hlen0, en, hNN])
        have i4 : ¬ ((400 : Int) < (NN : Int)) := by omega
        have h4N : NN ≤ 400 := by omega
        rw [← hNN] at ck ic ic0 iz ik hcap ⊢
        clear hNN h4 en
        obtain ⟨ti, hti, hz0, hz1, hz2⟩ := info_parts infoOp
        go_wp2_with fail
        go_loopw [5, 30] (fun v i wr => ∃ (k : Nat) (os : List Op1) (x : Option Addr) (cx : Nat), k ≤ NN ∧ i = .int .i64 k ∧ v = .slice x os.length cx ∧ Hid (os = (LL.take k).map opL) ∧ wr.ownsRow w.heap.size 31 5 (.slice x os.length cx) os.length (opC os) ∧ SA wr g SS ∧ Below w.heap.size w wr ∧ Hid ((∀ q, (Value.slice x os.length cx).ownBlock = some q → w1.heap.size ≤ q) ∧ w1.heap.size ≤ wr.heap.size)) (fun _ i _ => NN - (intOf i).toNat)
        case atStart => exact ⟨0, [], none, 0, Nat.zero_le _, rfl, rfl, hide rfl, World.ownsRow_nil _ _ _ _, unhide HSA, unhide HB1, hide ⟨fun q hq => (by cases hq), Nat.le_refl _⟩⟩
        case round =>
          obtain ⟨k, os, x, cx, hk, rfl, rfl, HO, hown, hS, hB, HQ⟩ := hrel
          have hol : os.length = k := by have := unhide Hlen; have := unhide HNN; rw [unhide HO]; simp; omega
          by_cases hkn : k < NN
          · have ik2 : (k : Int) < (NN : Int) := by omega
            have hkl : k < SS.length := by have := unhide HNN; omega
            have ck := hS.2 k hkl
            have hkL : k < LL.length := by have := unhide Hlen; omega
            have hsk : SS[k] = ofL LL[k] := by
              have := unhide HSS'
              subst this
              simp
            have hszk : (ofL LL[k]).size ≤ 1048576 := by rw [← toL_size, toL_ofL]; exact unhide Hsz _ (List.getElem_mem hkL)
            rw [hsk] at ck
            have HRO := hide (l7op_any (ofL LL[k]) wr hszk)
            rw [toL_ofL] at HRO
            have HNx := hide (show os ++ [opL LL[k]] = (LL.take (k + 1)).map opL by have ht := List.take_append_getElem hkL; rw [unhide HO, ← ht, List.map_append]; rfl)
            have hol4 : os.length ≤ 400 := by omega
            have Hol := hide hol
            have Hkl2 := hide hkn
            have Hown := hide hown
            generalize opL LL[k] = o at HRO HNx
            generalize ofL LL[k] = lk at ck HRO
            clear hol hkl hkL hsk hszk hk hown hkn
            go_wp2_with (first
              | (go_at_call 10; refine (unhide HRO).mono ?_; rintro e w2 ⟨rfl, hb2⟩; unfold opVal; have ow2 := World.ownsRow.alloc (own_after (unhide Hown) hb2) (.cells #[.int .i64 o.kind, .string o.name, .string o.other, .string o.text, .int .i64 o.num] 31); have NW := World.news_of_block (heap_alloc_new w2 (.cells #[.int .i64 o.kind, .string o.name, .string o.other, .string o.text, .int .i64 o.num] 31)); have B2 := hB.trans (hb2.mono hB.size); have B3 := B2.alloc B2.size (.cells #[.int .i64 o.kind, .string o.name, .string o.other, .string o.text, .int .i64 o.num] 31); have z3 := B3.size; have hS3 := (hS.below hb2 (Nat.le_refl _)).below ((Below.refl w2.heap.size w2).alloc (Nat.le_refl _) (.cells #[.int .i64 o.kind, .string o.name, .string o.other, .string o.text, .int .i64 o.num] 31)) (Nat.le_refl _); have z2 : w1.heap.size ≤ (w2.alloc (.cells #[.int .i64 o.kind, .string o.name, .string o.other, .string o.text, .int .i64 o.num] 31)).heap.size := Nat.le_trans (unhide HQ).2 (Nat.le_trans hb2.size (by simp)))
              | (at_builtin; refine wpList_append_lies _ rfl _ _ 22 rfl w.heap.size 31 ti (.agg #[.int .i64 0, .string ByteArray.empty, .string ByteArray.empty, .string ByteArray.empty, .int .i64 0]) 5 64 Tryd.underlying22 hti hz0 hz1 hz2 rfl (by decide) (.slice x os.length cx) os.length (opC os) rfl ow2 ⟨w2.heap.size, 0, none⟩ 1 1 (op5 o) rfl rfl NW (by intro u hu; simp [op5] at hu; rcases hu with rfl | rfl | rfl | rfl | rfl <;> rfl) (by decide) (by unfold maxLen; omega) (by omega) z3 _ rfl ?_; intro g7 cap7 w7 O7 hgrow hat hlt7)
              | fail)
            have B7 := B3.grown hgrow z3 (fun q hq => (ow2.lt q hq).1)
            have hg1 : g < w1.heap.size := (unhide HSA).1
            have hS7 : SA w7 g SS := ⟨Nat.lt_of_lt_of_le hS3.1 hgrow.size, fun j hj => (hgrow.cell_far ⟨g, j, none⟩ hS3.1 (fun e => by have := (unhide HQ).1 g e.symm; omega)).trans (hS3.2 j hj)⟩
            have O8 := O7
            rw [opC_snoc] at O8
            have hl8 : (os ++ [o]).length = os.length + 1 := by simp
            have HQ7 := hide (show (∀ q, (Value.slice (some ⟨g7, 0, none⟩) (os ++ [o]).length cap7).ownBlock = some q → w1.heap.size ≤ q) ∧ w1.heap.size ≤ w7.heap.size from ⟨fun q hq => by
              have e : g7 = q := by simpa [Value.ownBlock] using hq
              subst e
              rcases hat with e | e
              · exact (unhide HQ).1 g7 e
              · rw [e]; exact z2, Nat.le_trans z2 hgrow.size⟩)
            have Hl8 := hide hl8
            have HO8 := hide O8
            clear hl8 O8 O7 hat hgrow
            go_roundw
            case rel => exact ⟨k + 1, os ++ [o], some ⟨g7, 0, none⟩, cap7, unhide Hkl2, by have := unhide Hkl2; go_num, by rw [unhide Hl8], HNx, by rw [unhide Hl8]; exact unhide HO8, hS7, B7, HQ7⟩
            case measure => have := unhide Hkl2; simp [intOf]; omega
          · have e : k = NN := by omega
            have nik : ¬ ((k : Int) < (NN : Int)) := by omega
            have hNN := unhide HNN
            have HF := hide (show os = LL.map opL by rw [unhide HO, List.take_of_length_le (by have := unhide Hlen; omega)])
            have Hown := hide hown
            clear hkn hk hol e hown hNN
            go_wp2_with fail
            go_ret2
            rw [unhide HE, ← unhide HF]
            exact ⟨hB, x, cx, rfl, unhide Hown⟩

      · obtain ⟨NN, hNN⟩ : ∃ NN, NN = kk + 1 := ⟨_, rfl⟩
        have HNN := hide (show SS.length = NN by rw [unhide Hlen0, en, hNN])
        have i4 : ¬ ((400 : Int) < (NN : Int)) := by omega
        have h4N : NN ≤ 400 := by omega
        rw [← hNN] at iz ik hcap ⊢
        clear hNN h4 en
        obtain ⟨ti, hti, hz0, hz1, hz2⟩ := info_parts infoOp
        go_wp2_with fail
        go_loopw [5, 30] (fun v i wr => ∃ (k : Nat) (os : List Op1) (x : Option Addr) (cx : Nat), k ≤ NN ∧ i = .int .i64 k ∧ v = .slice x os.length cx ∧ Hid (os = (LL.take k).map opL) ∧ wr.ownsRow w.heap.size 31 5 (.slice x os.length cx) os.length (opC os) ∧ SA wr g SS ∧ Below w.heap.size w wr ∧ Hid ((∀ q, (Value.slice x os.length cx).ownBlock = some q → w1.heap.size ≤ q) ∧ w1.heap.size ≤ wr.heap.size)) (fun _ i _ => NN - (intOf i).toNat)
        case atStart => exact ⟨0, [], none, 0, Nat.zero_le _, rfl, rfl, hide rfl, World.ownsRow_nil _ _ _ _, unhide HSA, unhide HB1, hide ⟨fun q hq => (by cases hq), Nat.le_refl _⟩⟩
        case round =>
          obtain ⟨k, os, x, cx, hk, rfl, rfl, HO, hown, hS, hB, HQ⟩ := hrel
          have hol : os.length = k := by have := unhide Hlen; have := unhide HNN; rw [unhide HO]; simp; omega
          by_cases hkn : k < NN
          · have ik2 : (k : Int) < (NN : Int) := by omega
            have hkl : k < SS.length := by have := unhide HNN; omega
            have ck := hS.2 k hkl
            have hkL : k < LL.length := by have := unhide Hlen; omega
            have hsk : SS[k] = ofL LL[k] := by
              have := unhide HSS'
              subst this
              simp
            have hszk : (ofL LL[k]).size ≤ 1048576 := by rw [← toL_size, toL_ofL]; exact unhide Hsz _ (List.getElem_mem hkL)
            rw [hsk] at ck
            have HRO := hide (l7op_any (ofL LL[k]) wr hszk)
            rw [toL_ofL] at HRO
            have HNx := hide (show os ++ [opL LL[k]] = (LL.take (k + 1)).map opL by have ht := List.take_append_getElem hkL; rw [unhide HO, ← ht, List.map_append]; rfl)
            have hol4 : os.length ≤ 400 := by omega
            have Hol := hide hol
            have Hkl2 := hide hkn
            have Hown := hide hown
            generalize opL LL[k] = o at HRO HNx
            generalize ofL LL[k] = lk at ck HRO
            clear hol hkl hkL hsk hszk hk hown hkn
            go_wp2_with (first
              | (go_at_call 10; refine (unhide HRO).mono ?_; rintro e w2 ⟨rfl, hb2⟩; unfold opVal; have ow2 := World.ownsRow.alloc (own_after (unhide Hown) hb2) (.cells #[.int .i64 o.kind, .string o.name, .string o.other, .string o.text, .int .i64 o.num] 31); have NW := World.news_of_block (heap_alloc_new w2 (.cells #[.int .i64 o.kind, .string o.name, .string o.other, .string o.text, .int .i64 o.num] 31)); have B2 := hB.trans (hb2.mono hB.size); have B3 := B2.alloc B2.size (.cells #[.int .i64 o.kind, .string o.name, .string o.other, .string o.text, .int .i64 o.num] 31); have z3 := B3.size; have hS3 := (hS.below hb2 (Nat.le_refl _)).below ((Below.refl w2.heap.size w2).alloc (Nat.le_refl _) (.cells #[.int .i64 o.kind, .string o.name, .string o.other, .string o.text, .int .i64 o.num] 31)) (Nat.le_refl _); have z2 : w1.heap.size ≤ (w2.alloc (.cells #[.int .i64 o.kind, .string o.name, .string o.other, .string o.text, .int .i64 o.num] 31)).heap.size := Nat.le_trans (unhide HQ).2 (Nat.le_trans hb2.size (by simp)))
              | (at_builtin; refine wpList_append_lies _ rfl _ _ 22 rfl w.heap.size 31 ti (.agg #[.int .i64 0, .string ByteArray.empty, .string ByteArray.empty, .string ByteArray.empty, .int .i64 0]) 5 64 Tryd.underlying22 hti hz0 hz1 hz2 rfl (by decide) (.slice x os.length cx) os.length (opC os) rfl ow2 ⟨w2.heap.size, 0, none⟩ 1 1 (op5 o) rfl rfl NW (by intro u hu; simp [op5] at hu; rcases hu with rfl | rfl | rfl | rfl | rfl <;> rfl) (by decide) (by unfold maxLen; omega) (by omega) z3 _ rfl ?_; intro g7 cap7 w7 O7 hgrow hat hlt7)
              | fail)
            have B7 := B3.grown hgrow z3 (fun q hq => (ow2.lt q hq).1)
            have hg1 : g < w1.heap.size := (unhide HSA).1
            have hS7 : SA w7 g SS := ⟨Nat.lt_of_lt_of_le hS3.1 hgrow.size, fun j hj => (hgrow.cell_far ⟨g, j, none⟩ hS3.1 (fun e => by have := (unhide HQ).1 g e.symm; omega)).trans (hS3.2 j hj)⟩
            have O8 := O7
            rw [opC_snoc] at O8
            have hl8 : (os ++ [o]).length = os.length + 1 := by simp
            have HQ7 := hide (show (∀ q, (Value.slice (some ⟨g7, 0, none⟩) (os ++ [o]).length cap7).ownBlock = some q → w1.heap.size ≤ q) ∧ w1.heap.size ≤ w7.heap.size from ⟨fun q hq => by
              have e : g7 = q := by simpa [Value.ownBlock] using hq
              subst e
              rcases hat with e | e
              · exact (unhide HQ).1 g7 e
              · rw [e]; exact z2, Nat.le_trans z2 hgrow.size⟩)
            have Hl8 := hide hl8
            have HO8 := hide O8
            clear hl8 O8 O7 hat hgrow
            go_roundw
            case rel => exact ⟨k + 1, os ++ [o], some ⟨g7, 0, none⟩, cap7, unhide Hkl2, by have := unhide Hkl2; go_num, by rw [unhide Hl8], HNx, by rw [unhide Hl8]; exact unhide HO8, hS7, B7, HQ7⟩
            case measure => have := unhide Hkl2; simp [intOf]; omega
          · have e : k = NN := by omega
            have nik : ¬ ((k : Int) < (NN : Int)) := by omega
            have hNN := unhide HNN
            have HF := hide (show os = LL.map opL by rw [unhide HO, List.take_of_length_le (by have := unhide Hlen; omega)])
            have Hown := hide hown
            clear hkn hk hol e hown hNN
            go_wp2_with fail
            go_ret2
            rw [unhide HE, ← unhide HF]
            exact ⟨hB, x, cx, rfl, unhide Hown⟩


end Go.Proofs.YthdoakeocaegkaaDoor

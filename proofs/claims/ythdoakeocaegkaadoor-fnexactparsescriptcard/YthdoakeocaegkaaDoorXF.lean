/-
  Scripts: the program reads one. Own work.
-/
import Derived.Test.YthdoakeocaegkaaDoorXE
import Derived.OwnWalk
import Derived.Deep.AppendLies
namespace Go.Proofs.YthdoakeocaegkaaDoor
open Go.RowKit
set_option linter.unusedVariables false

def op5 (o : Op1) : List Value := [.int .i64 o.kind, .string o.name, .string o.other, .string o.text, .int .i64 o.num]
def opC (os : List Op1) : List Value := os.flatMap op5

theorem opC_snoc (os : List Op1) (o : Op1) : opC os ++ op5 o = opC (os ++ [o]) := by simp [opC]

theorem infoOp : (Tryd.prog.info? 31).map (fun i => (i.zero, i.size, i.bytes)) = some (some (.agg #[.int .i64 0, .string ByteArray.empty, .string ByteArray.empty, .string ByteArray.empty, .int .i64 0]), 5, 64) := by kernel_rfl

/-- what a script's reader answers -/
def ScA (w : World) (r : Option (List Op1)) (e : Ending) (w' : World) : Prop :=
  Below w.heap.size w w' ∧ match r with
  | none => e = .returned (.tuple #[.slice none 0 0, .bool false])
  | some os => ∃ x c, e = .returned (.tuple #[.slice x os.length c, .bool true]) ∧ w'.ownsRow w.heap.size 31 5 (.slice x os.length c) os.length (opC os)

theorem own_after {w w' : World} {base : Nat} {e : TypeId} {size : Nat} {v : Value} {n : Nat} {xs : List Value} (h : w.ownsRow base e size v n xs) (hb : Below w.heap.size w w') : w'.ownsRow base e size v n xs := by
  refine ⟨h.1, ?_⟩
  have hlt := h.lt
  rcases h.2 with hn | ⟨q, cap, cur, hv, h1, h2, h3⟩
  · exact .inl hn
  · refine .inr ⟨q, cap, cur, hv, h1, ?_, h3⟩
    rw [hb.block q (hlt q (by rw [hv]; rfl)).2]
    exact h2

set_option maxRecDepth 100000 in
set_option maxHeartbeats 3200000 in
theorem iScript_any (s : ByteArray) (w : World) (hs : s.size ≤ 1048576) (hm : Mxl w) :
    Calls Tryd.prog 5 #[.string s] w fun e w' => ScA w (scriptR (toL s)) e w' := by
  have hl := toL_size s
  by_cases h6 : 60000 < s.size
  · have HX := hide (show scriptR (toL s) = none by unfold scriptR; rw [if_pos (by omega)])
    have i6 : (60000 : Int) < (s.size : Int) := by omega
    rw [unhide HX]
    clear hl h6
    go_enter Tryd.func5, Tryd.ntmps5
    go_wp2_with fail
    go_ret2
    exact ⟨Below.refl _ _, rfl⟩
  · have i6 : ¬ ((60000 : Int) < (s.size : Int)) := by omega
    have HL := hide (linesOf_any s w hs hm)
    have HX := hide (show scriptR (toL s) = if 400 < (linesL (toL s)).length then none else some ((linesL (toL s)).map opL) by unfold scriptR; rw [if_neg (by omega)])
    have Hsz := hide (show ∀ x ∈ linesL (toL s), x.length ≤ 1048576 from fun x hx => by
      have hx' : x ∈ splitC 10 (toL s) := by
        unfold linesL at hx
        split at hx
        · exact List.dropLast_subset _ hx
        · exact hx
      have := splitC_le hx'
      omega)
    have HM := hide hm
    rw [unhide HX]
    generalize linesL (toL s) = LL at HL Hsz
    obtain ⟨SS, HSS⟩ : ∃ SS, SS = LL.map ofL := ⟨_, rfl⟩
    have hlen : SS.length = LL.length := by rw [HSS]; simp
    rw [← HSS] at HL
    have HSS' := hide HSS
    clear hl h6 hm HSS HX
    by_cases h4 : 400 < LL.length
    · rw [if_pos h4]
      have i4 : (400 : Int) < (SS.length : Int) := by omega
      clear h4 hlen
      go_enter Tryd.func5, Tryd.ntmps5
      go_wp2_with fail
      refine (unhide HL).mono ?_
      rintro e w1 ⟨g, c, rfl, hSA, hb1⟩
      go_wp2_with fail
      go_ret2
      exact ⟨hb1, rfl⟩
    · rw [if_neg h4]
      have i4 : ¬ ((400 : Int) < (SS.length : Int)) := by omega
      have h400 : SS.length ≤ 400 := by omega
      have Hlen := hide hlen
      clear h4 hlen
      go_enter Tryd.func5, Tryd.ntmps5
      go_wp2_with fail
      refine (unhide HL).mono ?_
      rintro e w1 ⟨g, c, rfl, hSA, hb1⟩
      have HSA := hide hSA
      have HB1 := hide hb1
      clear hSA hb1
      obtain ⟨ti, hti, hz0, hz1, hz2⟩ := info_parts infoOp
      go_wp2_with fail
      go_loopw [5, 18] (fun v i wr => ∃ (k : Nat) (os : List Op1) (x : Option Addr) (cx : Nat), k ≤ SS.length ∧ i = .int .i64 k ∧ v = .slice x os.length cx ∧ Hid (os = (LL.take k).map opL) ∧ wr.ownsRow w.heap.size 31 5 (.slice x os.length cx) os.length (opC os) ∧ SA wr g SS ∧ Below w.heap.size w wr ∧ Hid ((∀ q, (Value.slice x os.length cx).ownBlock = some q → w1.heap.size ≤ q) ∧ w1.heap.size ≤ wr.heap.size)) (fun _ i _ => SS.length - (intOf i).toNat)
      case atStart => exact ⟨0, [], none, 0, Nat.zero_le _, rfl, rfl, hide rfl, World.ownsRow_nil _ _ _ _, unhide HSA, unhide HB1, hide ⟨fun q hq => (by cases hq), Nat.le_refl _⟩⟩
      case round =>
        obtain ⟨k, os, x, cx, hk, rfl, rfl, HO, hown, hS, hB, HQ⟩ := hrel
        have hol : os.length = k := by have := unhide Hlen; rw [unhide HO]; simp; omega
        by_cases hkl : k < SS.length
        · have ik : (k : Int) < (SS.length : Int) := by omega
          have ck := hS.2 k hkl
          have hkL : k < LL.length := by have := unhide Hlen; omega
          have hsk : SS[k] = ofL LL[k] := by
            have := unhide HSS'
            subst this
            simp
          have hszk : (ofL LL[k]).size ≤ 1048576 := by rw [← toL_size, toL_ofL]; exact unhide Hsz _ (List.getElem_mem hkL)
          rw [hsk] at ck
          have HRO := hide (readOp_any (ofL LL[k]) wr hszk ((unhide HM).below hB (Nat.le_refl _)))
          rw [toL_ofL] at HRO
          have HN := hide (show os ++ [opL LL[k]] = (LL.take (k + 1)).map opL by have ht := List.take_append_getElem hkL; rw [unhide HO, ← ht, List.map_append]; rfl)
          have hol4 : os.length ≤ 400 := by omega
          have Hol := hide hol
          have Hkl := hide hkl
          have Hown := hide hown
          generalize opL LL[k] = o at HRO HN
          generalize ofL LL[k] = lk at ck HRO
          clear hol hkl hkL hsk hszk hk hown
          go_wp2_with (first
            | (go_at_call 12; refine (unhide HRO).mono ?_; rintro e w2 ⟨rfl, hb2⟩; unfold opVal; have ow2 := World.ownsRow.alloc (own_after (unhide Hown) hb2) (.cells #[.int .i64 o.kind, .string o.name, .string o.other, .string o.text, .int .i64 o.num] 31); have NW := World.news_of_block (heap_alloc_new w2 (.cells #[.int .i64 o.kind, .string o.name, .string o.other, .string o.text, .int .i64 o.num] 31)); have B2 := hB.trans (hb2.mono hB.size); have B3 := B2.alloc B2.size (.cells #[.int .i64 o.kind, .string o.name, .string o.other, .string o.text, .int .i64 o.num] 31); have z3 := B3.size; have hS3 := (hS.below hb2 (Nat.le_refl _)).below ((Below.refl w2.heap.size w2).alloc (Nat.le_refl _) (.cells #[.int .i64 o.kind, .string o.name, .string o.other, .string o.text, .int .i64 o.num] 31)) (Nat.le_refl _); have z2 : w1.heap.size ≤ (w2.alloc (.cells #[.int .i64 o.kind, .string o.name, .string o.other, .string o.text, .int .i64 o.num] 31)).heap.size := Nat.le_trans (unhide HQ).2 (Nat.le_trans hb2.size (by simp)))
            | (at_builtin; refine wpList_append_lies _ rfl _ _ 22 rfl w.heap.size 31 ti (.agg #[.int .i64 0, .string ByteArray.empty, .string ByteArray.empty, .string ByteArray.empty, .int .i64 0]) 5 64 Tryd.underlying22 hti hz0 hz1 hz2 rfl (by decide) (.slice x os.length cx) os.length (opC os) rfl ow2 ⟨w2.heap.size, 0, none⟩ 1 1 (op5 o) rfl rfl NW (by intro u hu; simp [op5] at hu; rcases hu with rfl | rfl | rfl | rfl | rfl <;> rfl) (by decide) (by unfold maxLen; omega) (by omega) z3 _ rfl ?_; intro g7 cap7 w7 O7 hgrow hat hlt7)
            | fail)
          have B7 := B3.grown hgrow z3 (fun q hq => (ow2.lt q hq).1)
          have hg1 : g < w1.heap.size := (unhide HSA).1
          have hS7 : SA w7 g SS := ⟨Nat.lt_of_lt_of_le hS3.1 hgrow.size, fun j hj => (hgrow.cell_far ⟨g, j, none⟩ hS3.1 (fun e => by have := (unhide HQ).1 g e.symm; omega)).trans (hS3.2 j hj)⟩
          have O8 := O7
          rw [opC_snoc] at O8
          have hl8 : (os ++ [o]).length = os.length + 1 := by simp
          have HQ7 := hide (show (∀ q, (Value.slice (some ⟨g7, 0, none⟩) (os ++ [o]).length cap7).ownBlock = some q → w1.heap.size ≤ q) ∧ w1.heap.size ≤ w7.heap.size from ⟨fun q hq => by
            have e : g7 = q := by simpa [Value.ownBlock] using hq
            subst e
            rcases hat with e | e
            · exact (unhide HQ).1 g7 e
            · rw [e]; exact z2, Nat.le_trans z2 hgrow.size⟩)
          have Hl8 := hide hl8
          have HO8 := hide O8
          clear hl8 O8 O7 hat hgrow
          go_roundw
          case rel => exact ⟨k + 1, os ++ [o], some ⟨g7, 0, none⟩, cap7, unhide Hkl, by have := unhide Hkl; go_num, by rw [unhide Hl8], HN, by rw [unhide Hl8]; exact unhide HO8, hS7, B7, HQ7⟩
          case measure => have := unhide Hkl; simp [intOf]; omega
        · have e : k = SS.length := by omega
          have nik : ¬ ((k : Int) < (SS.length : Int)) := by omega
          have HF := hide (show os = LL.map opL by rw [unhide HO, List.take_of_length_le (by have := unhide Hlen; omega)])
          have Hown := hide hown
          clear hkl hk hol e hown
          go_wp2_with fail
          go_ret2
          rw [← unhide HF]
          exact ⟨hB, x, cx, rfl, unhide Hown⟩

end Go.Proofs.YthdoakeocaegkaaDoor

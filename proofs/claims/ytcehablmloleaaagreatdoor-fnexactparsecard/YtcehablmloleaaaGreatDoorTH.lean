/-
  The walk over the model's Scan. Own work.
-/
import Derived.Test.YtcehablmloleaaaGreatDoorTP
import Derived.Test.YtcehablmloleaaaGreatDoorTQ
import Derived.Test.YtcehablmloleaaaGreatDoorTG
import Derived.Test.YtcehablmloleaaaGreatDoorMXAN
import Derived.Deep.Onto
namespace Go.Proofs.YtcehablmloleaaaGreatDoor
open Go.RowKit
set_option linter.unusedVariables false

theorem l2one_any (s : ByteArray) (j : Nat) (w : World) (hs : s.size ≤ 1048576) (hj : j < s.size) :
    Calls Tryz.prog 28 #[.string s, .int .i64 j] w fun e w' => onAns j (oneF ((toL s).drop j)) e ∧ Below w.heap.size w w' := by
  have hd := drop_cons s j hj
  cases h1 : ltI (s[j].toNat : Int)
  · cases h2 : dgI (s[j].toNat : Int)
    · by_cases h3 : (s[j].toNat : Int) = 34
      · have e3 : s[j] = 34 := UInt8.toNat_inj.1 (by have : (34 : UInt8).toNat = 34 := rfl; omega)
        have e : oneF ((toL s).drop j) = oneText ((toL s).drop (j + 1)) := by
          rw [hd, oneF, if_neg (by rw [ltB, h1]; decide), if_neg (by rw [dgB, h2]; decide), if_pos e3]
        rw [e]
        exact l2one_text s j w hs hj h3
      · have e3 : ¬ s[j] = 34 := fun e => h3 (by rw [e]; rfl)
        have e : oneF ((toL s).drop j) = oneSign s[j] ((toL s).drop j) := by
          rw [hd, oneF, if_neg (by rw [ltB, h1]; decide), if_neg (by rw [dgB, h2]; decide), if_neg e3]
        rw [e]
        exact l2one_sign s j w hs hj h1 h2 h3
    · have e : oneF ((toL s).drop j) = oneNum ((toL s).drop j) := by
        rw [hd, oneF, if_neg (by rw [ltB, h1]; decide), if_pos (by rw [dgB, h2])]
      rw [e]
      exact l2one_num s j w hs hj h1 h2
  · have e : oneF ((toL s).drop j) = oneWord ((toL s).drop j) := by
      rw [hd, oneF, if_pos (by rw [ltB, h1])]
    rw [e]
    exact l2one_word s j w hs hj h1

/-- the codes of what is wrong with a token -/
theorem oneF_code {c : UInt8} {r : List UInt8} {k : Int} (h : oneF (c :: r) = .bad k) : k = 2 ∨ k = 3 := by
  rw [oneF] at h
  split at h
  · rw [oneWord] at h
    split at h <;> first | (cases h; exact .inr rfl) | cases h
  · split at h
    · rw [oneNum] at h
      split at h <;> first | (cases h; exact .inr rfl) | cases h
    · split at h
      · rw [oneText] at h
        split at h <;> first | (cases h; exact .inr rfl) | cases h
      · rw [oneSign] at h
        split at h
        · cases h
        · split at h <;> first | (cases h; exact .inl rfl) | cases h

theorem ofL_size (l : List UInt8) : (ofL l).size = l.length := by simp [ofL, ByteArray.size]

theorem okT_nil : okT [] := fun _ h => nomatch h

theorem okT_snoc {T : List Tok} {x : Tok} (h : okT T) (hx : x.text.size ≤ maxLen) : okT (T ++ [x]) := fun y hy => by
  rcases List.mem_append.1 hy with k | k
  · exact h y k
  · rw [List.mem_singleton.1 k]; exact hx

theorem ownsT_below {w w' : World} {lo n : Nat} {v : Value} {xs : List Value} (h : w.ownsRow lo 42 4 v n xs) (hb : Below w.heap.size w w') : w'.ownsRow lo 42 4 v n xs := by
  refine ⟨h.1, ?_⟩
  rcases h.2 with h2 | ⟨g, cap, cur, hv, h3, hg, h4⟩
  · exact .inl h2
  · refine .inr ⟨g, cap, cur, hv, h3, ?_, h4⟩
    rw [← hg]
    exact hb.block g (Array.getElem?_eq_some_iff.1 hg).1

theorem ownsT_form {w : World} {lo n : Nat} {v : Value} {xs : List Value} (h : w.ownsRow lo 42 4 v n xs) : ∃ x c, v = .slice x n c := by
  rcases h.2 with ⟨h2, h0⟩ | ⟨g, cap, cur, hv, _⟩
  · subst h0; exact ⟨_, _, h2⟩
  · exact ⟨_, _, hv⟩

theorem tok_cells {w : World} {b : Nat} {x : Tok} {t : TypeId} (R : Row w b #[.int .i64 x.kind, .int .i64 x.num, .string x.text, .int .i64 (x.at_ : Int)] t) : ∀ j u, (tok4 x)[j]? = some u → w.cell? ((⟨b, 0, none⟩ : Addr).add j) = some u := fun j u h => by
  have hadd : (⟨b, 0, none⟩ : Addr).add j = ⟨b, j, none⟩ := by by_cases e : j = 0 <;> simp [Addr.add, e]
  rw [hadd, R.cell j, ← h]
  simp [tok4]

theorem tok_one (x : Tok) : ∀ u ∈ tok4 x, u.oneCell' = true := fun u h => by
  simp only [tok4, List.mem_cons, List.not_mem_nil, or_false] at h
  rcases h with rfl | rfl | rfl | rfl <;> rfl

/-- what Scan answers -/
def ScAns (w : World) (R : Res) (e : Ending) (w' : World) : Prop :=
  ∃ x c, e = .returned (.tuple #[.slice x R.toks.length c, .agg #[.int .i64 R.code, .int .i64 (R.at_ : Int)]]) ∧ w'.ownsRow w.heap.size 42 4 (.slice x R.toks.length c) R.toks.length (tokC R.toks) ∧ okT R.toks ∧ Below w.heap.size w w'

theorem infoT : (Tryz.prog.info? 42).map (fun i => (i.zero, i.size, i.bytes)) = some (some (.agg #[.int .i64 0, .int .i64 0, .string ByteArray.empty, .int .i64 0]), 4, 40) := by kernel_rfl

/-- a slice, and a fault out of its block -/
theorem res_sf {fn : Func} {a u : Tmp} (h : fn.results = #[.tmp u, .cell a 28]) {tmps : Array Value} {w : World} {b : Nat} {v0 v1 : Value} (ha : tmps.getD a undef = .pointer (some ⟨b, 0, none⟩))
    (g0 : w.cell? ⟨b, 0, none⟩ = some v0) (g1 : w.cell? ⟨b, 1, none⟩ = some v1) :
    (results fn tmps).run Tryz.prog w = .ok (.tuple #[tmps.getD u undef, .agg #[v0, v1]]) w := by
  rw [Array.getD_eq_getD_getElem?] at ha
  simp [results, h, ha, go_sem, g0, g1]

set_option maxRecDepth 100000 in
set_option maxHeartbeats 6400000 in
theorem sScan_any (t : ByteArray) (w : World) (ht : t.size ≤ 1048576) :
    Calls Tryz.prog 13 #[.string t] w fun e w' => ScAns w (scanR t) e w' := by
  by_cases h4 : 4000 < t.size
  · have i4 : (4000 : Int) < (t.size : Int) := by omega
    go_enter Tryz.func13, Tryz.ntmps13
    go_wp2
    have R := Row.new w #[.int .i64 1, .int .i64 0] 28
    have g0 := R.cell 0
    have g1 := R.cell 1
    refine bodyPost_ret (res_sf Tryz.results13 rfl g0 g1) rfl ?_
    rw [scanR, if_pos h4]
    exact ⟨none, 0, rfl, World.ownsRow_nil _ _ _ _, okT_nil, (Below.refl w.heap.size w).alloc (Nat.le_refl _) _⟩
  · have i4 : ¬ ((4000 : Int) < (t.size : Int)) := by omega
    have HR := hide (show scanR t = scanF t.size (t.size + 1) (toL t) [] by rw [scanR, if_neg h4])
    obtain ⟨i, hi, hz0, hz1, hz2⟩ := info_parts infoT
    have F0 := Row.new w #[.int .i64 0, .int .i64 0] 28
    have B0 := (Below.refl w.heap.size w).alloc (Nat.le_refl _) (.cells #[.int .i64 0, .int .i64 0] 28)
    go_enter Tryz.func13, Tryz.ntmps13
    go_wp2_with fail
    refine (l2blank_any t 0 _ (by unfold maxLen; omega) (by omega)).mono ?_
    rintro e w1 ⟨⟨k0, rfl, _, hk0, hb0, hb1⟩, hw⟩
    rw [hw]
    have Hs0 := hide (show scanF t.size (t.size + 1) ((toL t).drop k0) [] = scanR t by rw [unhide HR]; exact scanF_blk' _ _ (by rw [hb1, ← hb0, List.drop_zero]) _)
    have Hb1 := hide hb1
    clear hw hb0 hb1 HR
    go_wp2_with fail
    generalize w.alloc (.cells #[.int .i64 0, .int .i64 0] 28) = W0 at F0 B0 ⊢
    go_loopw [4, 5] (fun v a wr => ∃ (k f : Nat) (T : List Tok), a = .int .i64 k ∧ k ≤ t.size ∧ t.size - k < f ∧ T.length ≤ k ∧ okT T ∧ scanF t.size f ((toL t).drop k) T = scanR t ∧ blk false ((toL t).drop k) = (toL t).drop k ∧ wr.ownsRow (w.heap.size + 1) 42 4 v T.length (tokC T) ∧ Row wr w.heap.size #[.int .i64 0, .int .i64 0] 28 ∧ Below w.heap.size w wr) (fun _ a _ => t.size - (intOf a).toNat)
    case atStart => exact ⟨k0, t.size + 1, [], rfl, hk0, by omega, by simp, okT_nil, unhide Hs0, unhide Hb1, World.ownsRow_nil _ _ _ _, F0, B0⟩
    case round =>
      obtain ⟨k, f, T, rfl, hk, hf, hT, hok, hsc, hbk, hown, F1, B1⟩ := hrel
      have Hsc := hide hsc
      have Hbk := hide hbk
      have Hok := hide hok
      clear hsc hbk hok F0 B0 Hs0 Hb1
      by_cases hlt : k < t.size
      · have ilt : (k : Int) < (t.size : Int) := by omega
        go_wp2_with fail
        refine (l2one_any t k _ ht hlt).mono ?_
        rintro e w2 ⟨ha, hb2⟩
        have hd := drop_cons t k hlt
        have hlen : ((toL t).drop (k + 1)).length + 1 = t.size - k := by rw [List.length_drop, toL_size]; omega
        cases ho : oneF ((toL t).drop k) with
        | bad c =>
          rw [ho] at ha
          obtain ⟨kk, m, n, x, rfl⟩ := ha
          have F2 := F1.after hb2 (Nat.le_refl _)
          have B2 := B1.trans (hb2.mono B1.size)
          have z2 := Nat.le_trans B1.size hb2.size
          obtain ⟨f', rfl⟩ : ∃ f', f = f' + 1 := ⟨f - 1, by omega⟩
          have hbad : scanR t = ⟨[], c, k⟩ := by
            rw [← unhide Hsc, hd, scanF_bad (by rw [← hd]; exact unhide Hbk) (by rw [← hd]; exact ho)]
            congr 1
            rw [hlen]; omega
          have hc : c = 2 ∨ c = 3 := oneF_code (by rw [← hd]; exact ho)
          have Hbad := hide hbad
          clear hbad hd hlen ho hown F1 B1 hb2
          have q0 := F2.cell 0
          have q1 := F2.cell 1
          have qf := fun j => F2.frozen j
          simp only [List.getElem?_toArray, List.getElem?_cons_zero, List.getElem?_cons_succ] at q0 q1
          have hlt2 := F2.lt
          rcases hc with rfl | rfl
          · go_wp2_with fail
            have RF := ((F2.set 0 (.int .i64 2)).set 1 (.int .i64 k)).alloc (.cells #[.int .i64 kk, .int .i64 m, .string x, .int .i64 k] 42)
            have BF := ((B2.setCell (p := ⟨w.heap.size, 0, none⟩) (Nat.le_refl _) (.int .i64 2)).setCell (p := ⟨w.heap.size, 1, none⟩) (Nat.le_refl _) (.int .i64 k)).alloc (by simp; omega) (.cells #[.int .i64 kk, .int .i64 m, .string x, .int .i64 k] 42)
            have g0 : _ = some (Value.int .i64 2) := RF.cell 0
            have g1 : _ = some (Value.int .i64 k) := RF.cell 1
            refine bodyPost_ret (res_sf Tryz.results13 rfl g0 g1) rfl ?_
            rw [unhide Hbad]
            exact ⟨none, 0, rfl, World.ownsRow_nil _ _ _ _, okT_nil, BF⟩
          · go_wp2_with fail
            have RF := ((F2.set 0 (.int .i64 3)).set 1 (.int .i64 k)).alloc (.cells #[.int .i64 kk, .int .i64 m, .string x, .int .i64 k] 42)
            have BF := ((B2.setCell (p := ⟨w.heap.size, 0, none⟩) (Nat.le_refl _) (.int .i64 3)).setCell (p := ⟨w.heap.size, 1, none⟩) (Nat.le_refl _) (.int .i64 k)).alloc (by simp; omega) (.cells #[.int .i64 kk, .int .i64 m, .string x, .int .i64 k] 42)
            have g0 : _ = some (Value.int .i64 3) := RF.cell 0
            have g1 : _ = some (Value.int .i64 k) := RF.cell 1
            refine bodyPost_ret (res_sf Tryz.results13 rfl g0 g1) rfl ?_
            rw [unhide Hbad]
            exact ⟨none, 0, rfl, World.ownsRow_nil _ _ _ _, okT_nil, BF⟩
        | tok kd m tx wd =>
          rw [ho] at ha
          cases ha
          obtain ⟨hw1, hw2, hw3⟩ : 1 ≤ wd ∧ wd ≤ ((toL t).drop k).length ∧ tx.length ≤ wd := by have := oneF_ok ((toL t).drop k); rw [ho] at this; exact this
          rw [List.length_drop, toL_size] at hw2
          obtain ⟨f', rfl⟩ : ∃ f', f = f' + 1 := ⟨f - 1, by omega⟩
          have Hsc2 := hide (show scanF t.size f' ((toL t).drop (k + wd)) (T ++ [⟨kd, m, ofL tx, k⟩]) = scanR t by
            rw [← unhide Hsc, hd, scanF_tok (by rw [← hd]; exact unhide Hbk) (by rw [← hd]; exact ho), ← hd, List.drop_drop, show t.size - (((toL t).drop (k + 1)).length + 1) = k by omega])
          have hok2 : okT (T ++ [⟨kd, m, ofL tx, k⟩]) := okT_snoc (unhide Hok) (by show (ofL tx).size ≤ _; rw [ofL_size]; unfold maxLen; omega)
          have Hok2 := hide hok2
          clear hd hlen ho hok2 Hsc Hbk Hok
          have F2 := (F1.after hb2 (Nat.le_refl _)).alloc (.cells #[.int .i64 kd, .int .i64 m, .string (ofL tx), .int .i64 k] 42) |>.alloc (.cells #[.int .i64 kd, .int .i64 m, .string (ofL tx), .int .i64 k] 42)
          have B2 := ((B1.trans (hb2.mono B1.size)).alloc (Nat.le_trans B1.size hb2.size) (.cells #[.int .i64 kd, .int .i64 m, .string (ofL tx), .int .i64 k] 42)).alloc (by have := Nat.le_trans B1.size hb2.size; simp; omega) (.cells #[.int .i64 kd, .int .i64 m, .string (ofL tx), .int .i64 k] 42)
          have hown2 := ((ownsT_below hown hb2).alloc (.cells #[.int .i64 kd, .int .i64 m, .string (ofL tx), .int .i64 k] 42)).alloc (.cells #[.int .i64 kd, .int .i64 m, .string (ofL tx), .int .i64 k] 42)
          have RV := Row.new (w2.alloc (.cells #[.int .i64 kd, .int .i64 m, .string (ofL tx), .int .i64 k] 42)) #[.int .i64 kd, .int .i64 m, .string (ofL tx), .int .i64 k] 42
          simp only [World.size_alloc] at RV
          have z2 := F1.lt
          have z3 := hb2.size
          go_wp2_with (at_builtin; refine wpList_append_own _ rfl _ _ 37 rfl (w.heap.size + 1) 42 i (.agg #[.int .i64 0, .int .i64 0, .string ByteArray.empty, .int .i64 0]) 4 40 Tryz.underlying37 hi hz0 hz1 hz2 rfl (by decide) _ _ _ rfl hown2 ⟨w2.heap.size + 1, 0, none⟩ 1 1 (tok4 ⟨kd, m, ofL tx, k⟩) rfl rfl ?c1 ?c2 ?c3 ?c4 ?c5 ?_)
          case c1 => exact tok_cells (x := ⟨kd, m, ofL tx, k⟩) RV
          case c2 => exact tok_one _
          case c3 => unfold maxLen; omega
          case c4 => omega
          case c5 => simp; omega
          intro v' w3 hown' hgrow _
          have B3 : Below w.heap.size w w3 := B2.grown hgrow (by simp; omega) (fun q hq => by have := (hown2.lt q hq).1; omega)
          have F3 : Row w3 w.heap.size #[.int .i64 0, .int .i64 0] 28 := F2.below (B := w.heap.size + 1) ((Below.refl _ _).grown hgrow (by simp; omega) (fun q hq => (hown2.lt q hq).1)) (by omega)
          clear hgrow hown hown2 RV F1 F2 B1 B2 hb2
          go_wp2_with fail
          have hL := l2blank_any t (k + wd) w3 (by unfold maxLen; omega) (by omega)
          rw [Int.natCast_add] at hL
          refine hL.mono ?_
          rintro e w4 ⟨⟨k2, rfl, hk2, hk3, hb4, hb5⟩, hw⟩
          rw [hw]
          clear hw hL
          have Hsc3 := hide (show scanF t.size f' ((toL t).drop k2) (T ++ [⟨kd, m, ofL tx, k⟩]) = scanR t by rw [← unhide Hsc2]; exact scanF_blk' _ _ (by rw [hb5, hb4]) _)
          have Hb5 := hide hb5
          clear hb4 hb5
          go_wp2_with fail
          go_roundw
          case rel => exact ⟨k2, f', T ++ [⟨kd, m, ofL tx, k⟩], rfl, hk3, by omega, by simp; omega, unhide Hok2, unhide Hsc3, unhide Hb5, by rw [tokC_snoc, List.length_append]; exact hown', F3, B3⟩
          case measure => simp [intOf]; omega
      · have e : (toL t).drop k = [] := List.drop_of_length_le (by rw [toL_size]; omega)
        have hfin : scanR t = ⟨T, 0, 0⟩ := by rw [← unhide Hsc, e, scanF_nil]
        have Hfin := hide hfin
        have ilt : ¬ ((k : Int) < (t.size : Int)) := by omega
        clear hfin e
        have q0 := F1.cell 0
        have q1 := F1.cell 1
        have qf := fun j => F1.frozen j
        simp only [List.getElem?_toArray, List.getElem?_cons_zero, List.getElem?_cons_succ] at q0 q1
        obtain ⟨x, cx, hv⟩ := ownsT_form hown
        subst hv
        go_wp2_with fail
        have RF := (F1.set 0 (.int .i64 0)).set 1 (.int .i64 0)
        have BF := (B1.setCell (p := ⟨w.heap.size, 0, none⟩) (Nat.le_refl _) (.int .i64 0)).setCell (p := ⟨w.heap.size, 1, none⟩) (Nat.le_refl _) (.int .i64 0)
        have g0 : _ = some (Value.int .i64 0) := RF.cell 0
        have g1 : _ = some (Value.int .i64 0) := RF.cell 1
        have OF : ((wr.setCell ⟨w.heap.size, 0, none⟩ (.int .i64 0)).setCell ⟨w.heap.size, 1, none⟩ (.int .i64 0)).ownsRow w.heap.size 42 4 (.slice x T.length cx) T.length (tokC T) :=
          (ownsT_of_block hown (fun p hp => by
            have h1 : w.heap.size + 1 ≤ p.block := by subst hp; exact (hown.lt _ rfl).1
            rw [heap_setCell_other _ _ _ _ (by show p.block ≠ w.heap.size; omega), heap_setCell_other _ _ _ _ (by show p.block ≠ w.heap.size; omega)])).mono (by omega)
        refine bodyPost_ret (res_sf Tryz.results13 rfl g0 g1) rfl ?_
        rw [unhide Hfin]
        exact ⟨x, cx, rfl, OF, unhide Hok, BF⟩

end Go.Proofs.YtcehablmloleaaaGreatDoor

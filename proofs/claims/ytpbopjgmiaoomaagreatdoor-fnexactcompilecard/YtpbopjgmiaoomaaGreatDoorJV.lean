/-
  The type of a node, by those of its kids. Own work.
-/
import Derived.Test.YtpbopjgmiaoomaaGreatDoorJO
import Derived.Test.YtpbopjgmiaoomaaGreatDoorMXAJ
namespace Go.Proofs.YtpbopjgmiaoomaaGreatDoor
open Go.RowKit
set_option linter.unusedVariables false

/-- a type and no error, or an error -/
def TaAns (o : Option Int) (r : Ending) : Prop := (∃ t, o = some t ∧ r = .returned (.tuple #[.int .i64 t, .nilIface])) ∨ (o = none ∧ ∃ z t u, r = .returned (.tuple #[.int .i64 z, .iface t u]))

theorem TaAns.of_ot {o : Option Int} {aT : Addr} {r : Ending} (h : OtAns o aT r) : TaAns o r := by
  cases o with
  | none => exact .inr ⟨rfl, _, _, _, h⟩
  | some t => exact .inl ⟨t, rfl, h⟩

/-- the sentinels that the checker gives -/
structure Eok (w : World) (aN aA : Addr) : Prop where
  n : 4 < w.heap.size
  nc : w.cell? ⟨4, 0, none⟩ = some (.iface 221 (.pointer (some aN)))
  a : 2 < w.heap.size
  ac : w.cell? ⟨2, 0, none⟩ = some (.iface 221 (.pointer (some aA)))

theorem Eok.below {w w' : World} {aN aA : Addr} {B : Nat} (h : Eok w aN aA) (hb : Below B w w') (hB : w.heap.size ≤ B) : Eok w' aN aA :=
  ⟨Nat.lt_of_lt_of_le h.n hb.size, (hb.cell (p := ⟨4, 0, none⟩) (Nat.lt_of_lt_of_le h.n hB)).trans h.nc, Nat.lt_of_lt_of_le h.a hb.size, (hb.cell (p := ⟨2, 0, none⟩) (Nat.lt_of_lt_of_le h.a hB)).trans h.ac⟩

set_option maxRecDepth 100000 in
theorem typeOfLet_any (cb : Nat) (num : Int) (la : Option Addr) (ln lc : Nat) (ts : List Int) (aN aA : Addr) (w : World) (hE : Eok w aN aA) (hc : w.cell? ⟨cb, 1, none⟩ = some (.slice la ln lc)) (hl : Ints w la ln lc ts) :
    Calls Tryz.prog 127 #[.pointer (some ⟨cb, 0, none⟩), .int .i64 num] w fun r w' => TaAns (if 0 ≤ num then ts[num.toNat]? else none) r ∧ Below w.heap.size w w' := by
  have hs := hl.small
  have nc := hE.nc
  by_cases h0 : num < 0
  · have HX := hide (show (if 0 ≤ num then ts[num.toNat]? else none) = none from if_neg (by omega))
    rw [unhide HX]
    go_enter Tryz.func127, Tryz.ntmps127
    go_wp2_with fail
    go_region
    all_goals
      go_wp2_with fail
      exact bodyPost_ret (v := .tuple #[.int .i64 0, .iface 221 (.pointer (some aN))]) (by simp [results, Tryz.results127, go_sem]) rfl ⟨.inr ⟨rfl, _, _, _, rfl⟩, (Below.refl _ _).drew⟩
  · obtain ⟨k, rfl⟩ : ∃ k : Nat, num = k := ⟨num.toNat, by omega⟩
    by_cases h1 : k < ln
    · have hkl : k < ts.length := by rw [hl.len]; exact h1
      have HX := hide (show (if (0 : Int) ≤ (k : Int) then ts[(k : Int).toNat]? else none) = some ts[k] by rw [if_pos (by omega), Int.toNat_natCast, List.getElem?_eq_getElem hkl])
      obtain ⟨b, off, rfl, hb, c0⟩ := hl.cells k hkl
      have i1 : (k : Int) < (ln : Int) := by omega
      rw [unhide HX]
      generalize ts[k] = t at c0
      go_enter Tryz.func127, Tryz.ntmps127
      go_wp2_with fail
      exact bodyPost_ret (v := .tuple #[.int .i64 t, .nilIface]) (by simp [results, Tryz.results127, go_sem]) rfl ⟨.inl ⟨t, rfl, rfl⟩, Below.refl _ _⟩
    · have HX := hide (show (if (0 : Int) ≤ (k : Int) then ts[(k : Int).toNat]? else none) = none by rw [if_pos (by omega), Int.toNat_natCast, List.getElem?_eq_none (by rw [hl.len]; omega)])
      rw [unhide HX]
      have i1 : ¬ ((k : Int) < (ln : Int)) := by omega
      go_enter Tryz.func127, Tryz.ntmps127
      go_wp2_with fail
      go_region
      all_goals
        go_wp2_with fail
        exact bodyPost_ret (v := .tuple #[.int .i64 0, .iface 221 (.pointer (some aN))]) (by simp [results, Tryz.results127, go_sem]) rfl ⟨.inr ⟨rfl, _, _, _, rfl⟩, (Below.refl _ _).drew⟩

set_option maxHeartbeats 1600000 in
set_option maxRecDepth 100000 in
theorem above_int (cb : Nat) (i n : Int) (ka : Option Addr) (kn kc : Nat) (ks : List Int) (aT aN aA : Addr) (w : World) (hV : Vok w aT) (hE : Eok w aN aA) (hK : Ints w ka kn kc ks) :
    Calls Tryz.prog 119 #[.pointer (some ⟨cb, 0, none⟩), .iface 181 (.agg #[.int .i64 i, .int .i64 n]), .slice ka kn kc] w fun r w' => TaAns (some 2) r ∧ Below w.heap.size w w' := by
  have a0 := ta_hit (T := 181) Tryz.underlying181 75
  have B0 := (Below.refl w.heap.size w).alloc (Nat.le_refl _) (.cells #[.int .i64 i, .int .i64 n] 181)
  clear hV hE hK
  go_enter Tryz.func119, Tryz.ntmps119
  go_wp2_with fail
  exact bodyPost_ret (v := .tuple #[.int .i64 2, .nilIface]) (by simp [results, Tryz.results119, go_sem]) rfl ⟨.inl ⟨_, rfl, rfl⟩, B0⟩

set_option maxHeartbeats 1600000 in
set_option maxRecDepth 100000 in
theorem above_text (cb : Nat) (i : Int) (s : ByteArray) (ka : Option Addr) (kn kc : Nat) (ks : List Int) (aT aN aA : Addr) (w : World) (hV : Vok w aT) (hE : Eok w aN aA) (hK : Ints w ka kn kc ks) :
    Calls Tryz.prog 119 #[.pointer (some ⟨cb, 0, none⟩), .iface 183 (.agg #[.int .i64 i, .string s]), .slice ka kn kc] w fun r w' => TaAns (some 3) r ∧ Below w.heap.size w w' := by
  have a0 := ta_miss (S := 183) (T := 181) Tryz.underlying181 Tryz.zeroValue181 (by decide) 75
  have a1 := ta_hit (T := 183) Tryz.underlying183 75
  have B0 := (Below.refl w.heap.size w).alloc (Nat.le_refl _) (.cells #[.int .i64 i, .string s] 183)
  clear hV hE hK
  go_enter Tryz.func119, Tryz.ntmps119
  go_wp2_with fail
  exact bodyPost_ret (v := .tuple #[.int .i64 3, .nilIface]) (by simp [results, Tryz.results119, go_sem]) rfl ⟨.inl ⟨_, rfl, rfl⟩, B0⟩

set_option maxHeartbeats 1600000 in
set_option maxRecDepth 100000 in
theorem above_bool (cb : Nat) (i : Int) (b : Bool) (ka : Option Addr) (kn kc : Nat) (ks : List Int) (aT aN aA : Addr) (w : World) (hV : Vok w aT) (hE : Eok w aN aA) (hK : Ints w ka kn kc ks) :
    Calls Tryz.prog 119 #[.pointer (some ⟨cb, 0, none⟩), .iface 185 (.agg #[.int .i64 i, .bool b]), .slice ka kn kc] w fun r w' => TaAns (some 1) r ∧ Below w.heap.size w w' := by
  have a0 := ta_miss (S := 185) (T := 181) Tryz.underlying181 Tryz.zeroValue181 (by decide) 75
  have a1 := ta_miss (S := 185) (T := 183) Tryz.underlying183 Tryz.zeroValue183 (by decide) 75
  have a2 := ta_hit (T := 185) Tryz.underlying185 75
  have B0 := (Below.refl w.heap.size w).alloc (Nat.le_refl _) (.cells #[.int .i64 i, .bool b] 185)
  clear hV hE hK
  go_enter Tryz.func119, Tryz.ntmps119
  go_wp2_with fail
  exact bodyPost_ret (v := .tuple #[.int .i64 1, .nilIface]) (by simp [results, Tryz.results119, go_sem]) rfl ⟨.inl ⟨_, rfl, rfl⟩, B0⟩

set_option maxHeartbeats 1600000 in
set_option maxRecDepth 100000 in
theorem above_set (cb : Nat) (i : Int) (a : Option Addr) (n c : Nat) (ka : Option Addr) (kn kc : Nat) (ks : List Int) (aT aN aA : Addr) (w : World) (hV : Vok w aT) (hE : Eok w aN aA) (hK : Ints w ka kn kc ks) :
    Calls Tryz.prog 119 #[.pointer (some ⟨cb, 0, none⟩), .iface 187 (.agg #[.int .i64 i, .slice a n c]), .slice ka kn kc] w fun r w' => TaAns (some 4) r ∧ Below w.heap.size w w' := by
  have a0 := ta_miss (S := 187) (T := 181) Tryz.underlying181 Tryz.zeroValue181 (by decide) 75
  have a1 := ta_miss (S := 187) (T := 183) Tryz.underlying183 Tryz.zeroValue183 (by decide) 75
  have a2 := ta_miss (S := 187) (T := 185) Tryz.underlying185 Tryz.zeroValue185 (by decide) 75
  have a3 := ta_hit (T := 187) Tryz.underlying187 75
  have B0 := (Below.refl w.heap.size w).alloc (Nat.le_refl _) (.cells #[.int .i64 i, .slice a n c] 187)
  clear hV hE hK
  go_enter Tryz.func119, Tryz.ntmps119
  go_wp2_with fail
  exact bodyPost_ret (v := .tuple #[.int .i64 4, .nilIface]) (by simp [results, Tryz.results119, go_sem]) rfl ⟨.inl ⟨_, rfl, rfl⟩, B0⟩

set_option maxHeartbeats 1600000 in
set_option maxRecDepth 100000 in
theorem above_attr (cb : Nat) (i n : Int) (ka : Option Addr) (kn kc : Nat) (ks : List Int) (aT aN aA : Addr) (w : World) (hV : Vok w aT) (hE : Eok w aN aA) (hK : Ints w ka kn kc ks) (hn : 0 ≤ n ∧ n < 6) :
    Calls Tryz.prog 119 #[.pointer (some ⟨cb, 0, none⟩), .iface 153 (.agg #[.int .i64 i, .int .i64 n]), .slice ka kn kc] w fun r w' => TaAns (some (attrTy n)) r ∧ Below w.heap.size w w' := by
  have a0 := ta_miss (S := 153) (T := 181) Tryz.underlying181 Tryz.zeroValue181 (by decide) 75
  have a1 := ta_miss (S := 153) (T := 183) Tryz.underlying183 Tryz.zeroValue183 (by decide) 75
  have a2 := ta_miss (S := 153) (T := 185) Tryz.underlying185 Tryz.zeroValue185 (by decide) 75
  have a3 := ta_miss (S := 153) (T := 187) Tryz.underlying187 Tryz.zeroValue187 (by decide) 75
  have a4 := ta_miss (S := 153) (T := 189) Tryz.underlying189 Tryz.zeroValue189 (by decide) 75
  have a5 := ta_hit (T := 153) Tryz.underlying153 75
  have B0 := (Below.refl w.heap.size w).alloc (Nat.le_refl _) (.cells #[.int .i64 i, .int .i64 n] 153)
  have hac := hV.ac
  have ha := hV.a
  have h6 : n = 0 ∨ n = 1 ∨ n = 2 ∨ n = 3 ∨ n = 4 ∨ n = 5 := by omega
  clear hV hE hK hn
  rcases h6 with rfl | rfl | rfl | rfl | rfl | rfl
  · have cc : w.cell? ⟨0, 1, none⟩ = some (.int .i64 (attrTy 0)) := hac 1
    clear hac
    go_enter Tryz.func119, Tryz.ntmps119
    go_wp2_with fail
    exact bodyPost_ret (v := .tuple #[.int .i64 (attrTy 0), .nilIface]) (by simp [results, Tryz.results119, go_sem]) rfl ⟨.inl ⟨_, rfl, rfl⟩, by first | exact B0 | exact B0.drew⟩
  · have cc : w.cell? ⟨0, 3, none⟩ = some (.int .i64 (attrTy 1)) := hac 3
    clear hac
    go_enter Tryz.func119, Tryz.ntmps119
    go_wp2_with fail
    exact bodyPost_ret (v := .tuple #[.int .i64 (attrTy 1), .nilIface]) (by simp [results, Tryz.results119, go_sem]) rfl ⟨.inl ⟨_, rfl, rfl⟩, by first | exact B0 | exact B0.drew⟩
  · have cc : w.cell? ⟨0, 5, none⟩ = some (.int .i64 (attrTy 2)) := hac 5
    clear hac
    go_enter Tryz.func119, Tryz.ntmps119
    go_wp2_with fail
    exact bodyPost_ret (v := .tuple #[.int .i64 (attrTy 2), .nilIface]) (by simp [results, Tryz.results119, go_sem]) rfl ⟨.inl ⟨_, rfl, rfl⟩, by first | exact B0 | exact B0.drew⟩
  · have cc : w.cell? ⟨0, 7, none⟩ = some (.int .i64 (attrTy 3)) := hac 7
    clear hac
    go_enter Tryz.func119, Tryz.ntmps119
    go_wp2_with fail
    exact bodyPost_ret (v := .tuple #[.int .i64 (attrTy 3), .nilIface]) (by simp [results, Tryz.results119, go_sem]) rfl ⟨.inl ⟨_, rfl, rfl⟩, by first | exact B0 | exact B0.drew⟩
  · have cc : w.cell? ⟨0, 9, none⟩ = some (.int .i64 (attrTy 4)) := hac 9
    clear hac
    go_enter Tryz.func119, Tryz.ntmps119
    go_wp2_with fail
    exact bodyPost_ret (v := .tuple #[.int .i64 (attrTy 4), .nilIface]) (by simp [results, Tryz.results119, go_sem]) rfl ⟨.inl ⟨_, rfl, rfl⟩, by first | exact B0 | exact B0.drew⟩
  · have cc : w.cell? ⟨0, 11, none⟩ = some (.int .i64 (attrTy 5)) := hac 11
    clear hac
    go_enter Tryz.func119, Tryz.ntmps119
    go_wp2_with fail
    exact bodyPost_ret (v := .tuple #[.int .i64 (attrTy 5), .nilIface]) (by simp [results, Tryz.results119, go_sem]) rfl ⟨.inl ⟨_, rfl, rfl⟩, by first | exact B0 | exact B0.drew⟩

set_option maxHeartbeats 1600000 in
set_option maxRecDepth 100000 in
theorem above_lett (cb : Nat) (i n : Int) (la : Option Addr) (ln lc : Nat) (ts : List Int) (ka : Option Addr) (kn kc : Nat) (ks : List Int) (aT aN aA : Addr) (w : World) (hV : Vok w aT) (hE : Eok w aN aA) (hK : Ints w ka kn kc ks) (hc : w.cell? ⟨cb, 1, none⟩ = some (.slice la ln lc)) (hcb : cb < w.heap.size) (hl : Ints w la ln lc ts) :
    Calls Tryz.prog 119 #[.pointer (some ⟨cb, 0, none⟩), .iface 154 (.agg #[.int .i64 i, .int .i64 n]), .slice ka kn kc] w fun r w' => TaAns (if 0 ≤ n then ts[n.toNat]? else none) r ∧ Below w.heap.size w w' := by
  have a0 := ta_miss (S := 154) (T := 181) Tryz.underlying181 Tryz.zeroValue181 (by decide) 75
  have a1 := ta_miss (S := 154) (T := 183) Tryz.underlying183 Tryz.zeroValue183 (by decide) 75
  have a2 := ta_miss (S := 154) (T := 185) Tryz.underlying185 Tryz.zeroValue185 (by decide) 75
  have a3 := ta_miss (S := 154) (T := 187) Tryz.underlying187 Tryz.zeroValue187 (by decide) 75
  have a4 := ta_miss (S := 154) (T := 189) Tryz.underlying189 Tryz.zeroValue189 (by decide) 75
  have a5 := ta_miss (S := 154) (T := 153) Tryz.underlying153 Tryz.zeroValue153 (by decide) 75
  have a6 := ta_hit (T := 154) Tryz.underlying154 75
  have B0 := (Below.refl w.heap.size w).alloc (Nat.le_refl _) (.cells #[.int .i64 i, .int .i64 n] 154)
  have HC := hide (typeOfLet_any cb n la ln lc ts aN aA _ (hE.below B0 (Nat.le_refl _)) ((B0.cell (p := ⟨cb, 1, none⟩) hcb).trans hc) (hl.below B0 (Nat.le_refl _)))
  generalize (if 0 ≤ n then ts[n.toNat]? else none) = ot at HC
  clear hV hE hK hc hcb hl
  go_enter Tryz.func119, Tryz.ntmps119
  go_wp2_with fail
  refine (unhide HC).mono ?_
  rintro r w2 ⟨hr, hb2⟩
  have B2 := B0.trans (hb2.mono B0.size)
  rcases hr with ⟨t, rfl, rfl⟩ | ⟨rfl, z, t, u, rfl⟩
  · dsimp only
    go_wp2_with fail
    exact bodyPost_ret (v := .tuple #[.int .i64 t, .nilIface]) (by simp [results, Tryz.results119, go_sem]) rfl ⟨.inl ⟨t, rfl, rfl⟩, B2⟩
  · dsimp only
    go_wp2_with fail
    exact bodyPost_ret (v := .tuple #[.int .i64 z, .iface t u]) (by simp [results, Tryz.results119, go_sem]) rfl ⟨.inr ⟨rfl, _, _, _, rfl⟩, B2⟩

set_option maxHeartbeats 1600000 in
set_option maxRecDepth 100000 in
theorem above_un (cb : Nat) (i op : Int) (t : TypeId) (u : Value) (ka : Option Addr) (kn kc : Nat) (a : Int) (aT aN aA : Addr) (w : World) (hV : Vok w aT) (hE : Eok w aN aA) (hK : Ints w ka kn kc [a]) (hop : 8 ≤ op ∧ op ≤ 10) (ha : 1 ≤ a ∧ a ≤ 4) :
    Calls Tryz.prog 119 #[.pointer (some ⟨cb, 0, none⟩), .iface 156 (.agg #[.int .i64 i, .int .i64 op, .iface t u]), .slice ka kn kc] w fun r w' => TaAns (nz (tyOp op [a])) r ∧ Below w.heap.size w w' := by
  have a0 := ta_miss (S := 156) (T := 181) Tryz.underlying181 Tryz.zeroValue181 (by decide) 75
  have a1 := ta_miss (S := 156) (T := 183) Tryz.underlying183 Tryz.zeroValue183 (by decide) 75
  have a2 := ta_miss (S := 156) (T := 185) Tryz.underlying185 Tryz.zeroValue185 (by decide) 75
  have a3 := ta_miss (S := 156) (T := 187) Tryz.underlying187 Tryz.zeroValue187 (by decide) 75
  have a4 := ta_miss (S := 156) (T := 189) Tryz.underlying189 Tryz.zeroValue189 (by decide) 75
  have a5 := ta_miss (S := 156) (T := 153) Tryz.underlying153 Tryz.zeroValue153 (by decide) 75
  have a6 := ta_miss (S := 156) (T := 154) Tryz.underlying154 Tryz.zeroValue154 (by decide) 75
  have a7 := ta_hit (T := 156) Tryz.underlying156 75
  obtain ⟨bk, ok, rfl, lk, ck0⟩ := hK.cells 0 (by simp)
  obtain rfl : kn = 1 := hK.len.symm
  simp only [List.getElem_cons_zero, Nat.add_zero] at ck0
  have B0 := (Below.refl w.heap.size w).alloc (Nat.le_refl _) (.cells #[.int .i64 i, .int .i64 op, .iface t u] 156)
  have R0 := Row.new w #[.int .i64 i, .int .i64 op, .iface t u] 156
  have V0 := hV.below B0 (Nat.le_refl _)
  have HC := hide (fun W hW => operationType_any op a 0 aT W hW)
  rw [opT_un hop a ha] at HC
  generalize nz (tyOp op [a]) = ot at HC ⊢
  clear hK hE hV
  go_enter Tryz.func119, Tryz.ntmps119
  have W0E : ∃ W0, W0 = w.alloc (.cells #[.int .i64 i, .int .i64 op, .iface t u] 156) := ⟨_, rfl⟩
  go_wp2_with fail
  obtain ⟨W0, hW0⟩ := W0E
  rw [← hW0] at B0 R0 V0 ⊢
  have C0 := (B0.cell (p := ⟨bk, ok, none⟩) lk).trans ck0
  have CO : W0.cell? ⟨w.heap.size, 1, none⟩ = some (.int .i64 op) := R0.cell 1
  have LR := R0.lt
  have LK : bk < W0.heap.size := Nat.lt_of_lt_of_le lk B0.size
  have D1 : Below W0.heap.size W0 W0.drew := (Below.refl _ _).drew
  have keep : ∀ w', Below W0.heap.size W0 w' → w'.cell? ⟨bk, ok, none⟩ = some (.int .i64 a) ∧ w'.cell? ⟨w.heap.size, 1, none⟩ = some (.int .i64 op) := fun w' hb => ⟨(hb.cell (p := ⟨bk, ok, none⟩) LK).trans C0, (hb.cell (p := ⟨w.heap.size, 1, none⟩) LR).trans CO⟩
  have KP := hide keep
  have q1 := keep _ D1
  have V1 := V0.below D1 (Nat.le_refl _)
  clear hW0 R0 keep V0 ck0 C0 CO
  go_region_held3 (fun w' => w'.cell? ⟨bk, ok, none⟩ = some (.int .i64 a) ∧ w'.cell? ⟨w.heap.size, 1, none⟩ = some (.int .i64 op)) (first | assumption | go_keep)
    (first | (go_at_call 128; refine (unhide HC _ V1).mono ?_; rintro r w2 ⟨hr, hb2⟩; change r = _ at hr; subst hr; have G2 := D1.trans (hb2.mono D1.size); have q2 := unhide KP _ G2))
  go_wp2_with fail
  exact bodyPost_ret (v := .tuple #[.int .i64 (ot.getD 0), errT ot.isSome aT]) (by simp [results, Tryz.results119, go_sem]) rfl ⟨TaAns.of_ot (aT := aT) rfl, B0.trans (G2.mono B0.size)⟩

set_option maxHeartbeats 1600000 in
set_option maxRecDepth 100000 in
theorem above_bin (cb : Nat) (i op : Int) (t : TypeId) (u : Value) (t' : TypeId) (u' : Value) (ka : Option Addr) (kn kc : Nat) (a b : Int) (aT aN aA : Addr) (w : World) (hV : Vok w aT) (hE : Eok w aN aA) (hK : Ints w ka kn kc [a, b]) (hop : 11 ≤ op ∧ op ≤ 26) (ha : 1 ≤ a ∧ a ≤ 4) (hb : 1 ≤ b ∧ b ≤ 4) :
    Calls Tryz.prog 119 #[.pointer (some ⟨cb, 0, none⟩), .iface 158 (.agg #[.int .i64 i, .int .i64 op, .iface t u, .iface t' u']), .slice ka kn kc] w fun r w' => TaAns (nz (tyOp op [a, b])) r ∧ Below w.heap.size w w' := by
  have a0 := ta_miss (S := 158) (T := 181) Tryz.underlying181 Tryz.zeroValue181 (by decide) 75
  have a1 := ta_miss (S := 158) (T := 183) Tryz.underlying183 Tryz.zeroValue183 (by decide) 75
  have a2 := ta_miss (S := 158) (T := 185) Tryz.underlying185 Tryz.zeroValue185 (by decide) 75
  have a3 := ta_miss (S := 158) (T := 187) Tryz.underlying187 Tryz.zeroValue187 (by decide) 75
  have a4 := ta_miss (S := 158) (T := 189) Tryz.underlying189 Tryz.zeroValue189 (by decide) 75
  have a5 := ta_miss (S := 158) (T := 153) Tryz.underlying153 Tryz.zeroValue153 (by decide) 75
  have a6 := ta_miss (S := 158) (T := 154) Tryz.underlying154 Tryz.zeroValue154 (by decide) 75
  have a7 := ta_miss (S := 158) (T := 156) Tryz.underlying156 Tryz.zeroValue156 (by decide) 75
  have a8 := ta_hit (T := 158) Tryz.underlying158 75
  obtain ⟨bk, ok, rfl, lk, ck0⟩ := hK.cells 0 (by simp)
  have ck1 : w.cell? ⟨bk, ok + 1, none⟩ = some (.int .i64 b) := by
    obtain ⟨b2, o2, e2, _, c2⟩ := hK.cells 1 (by simp)
    obtain ⟨rfl, rfl⟩ : bk = b2 ∧ ok = o2 := by simpa using e2
    simpa using c2
  obtain rfl : kn = 2 := hK.len.symm
  simp only [List.getElem_cons_zero, Nat.add_zero] at ck0
  have B0 := (Below.refl w.heap.size w).alloc (Nat.le_refl _) (.cells #[.int .i64 i, .int .i64 op, .iface t u, .iface t' u'] 158)
  have R0 := Row.new w #[.int .i64 i, .int .i64 op, .iface t u, .iface t' u'] 158
  have V0 := hV.below B0 (Nat.le_refl _)
  have HC := hide (fun W hW => operationType_any op a b aT W hW)
  rw [opT_bin hop a b ha hb] at HC
  generalize nz (tyOp op [a, b]) = ot at HC ⊢
  clear hb
  clear hK hE hV
  go_enter Tryz.func119, Tryz.ntmps119
  have W0E : ∃ W0, W0 = w.alloc (.cells #[.int .i64 i, .int .i64 op, .iface t u, .iface t' u'] 158) := ⟨_, rfl⟩
  go_wp2_with fail
  obtain ⟨W0, hW0⟩ := W0E
  rw [← hW0] at B0 R0 V0 ⊢
  have C0 := (B0.cell (p := ⟨bk, ok, none⟩) lk).trans ck0
  have C1 := (B0.cell (p := ⟨bk, ok + 1, none⟩) lk).trans ck1
  have CO : W0.cell? ⟨w.heap.size, 1, none⟩ = some (.int .i64 op) := R0.cell 1
  have LR := R0.lt
  have LK : bk < W0.heap.size := Nat.lt_of_lt_of_le lk B0.size
  have D1 : Below W0.heap.size W0 W0.drew := (Below.refl _ _).drew
  have keep : ∀ w', Below W0.heap.size W0 w' → w'.cell? ⟨bk, ok, none⟩ = some (.int .i64 a) ∧ w'.cell? ⟨bk, ok + 1, none⟩ = some (.int .i64 b) ∧ w'.cell? ⟨w.heap.size, 1, none⟩ = some (.int .i64 op) := fun w' hb => ⟨(hb.cell (p := ⟨bk, ok, none⟩) LK).trans C0, (hb.cell (p := ⟨bk, ok + 1, none⟩) LK).trans C1, (hb.cell (p := ⟨w.heap.size, 1, none⟩) LR).trans CO⟩
  have KP := hide keep
  have q1 := keep _ D1
  have V1 := V0.below D1 (Nat.le_refl _)
  clear hW0 R0 keep V0 ck0 C0 ck1 C1 CO
  go_region_held3 (fun w' => w'.cell? ⟨bk, ok, none⟩ = some (.int .i64 a) ∧ w'.cell? ⟨bk, ok + 1, none⟩ = some (.int .i64 b) ∧ w'.cell? ⟨w.heap.size, 1, none⟩ = some (.int .i64 op)) (first | assumption | go_keep)
    (first | (go_at_call 128; refine (unhide HC _ V1).mono ?_; rintro r w2 ⟨hr, hb2⟩; change r = _ at hr; subst hr; have G2 := D1.trans (hb2.mono D1.size); have q2 := unhide KP _ G2))
  go_wp2_with fail
  exact bodyPost_ret (v := .tuple #[.int .i64 (ot.getD 0), errT ot.isSome aT]) (by simp [results, Tryz.results119, go_sem]) rfl ⟨TaAns.of_ot (aT := aT) rfl, B0.trans (G2.mono B0.size)⟩

set_option maxHeartbeats 1600000 in
set_option maxRecDepth 100000 in
theorem above_ite (cb : Nat) (i : Int) (t : TypeId) (u : Value) (t' : TypeId) (u' : Value) (t2 : TypeId) (u2 : Value) (ka : Option Addr) (kn kc : Nat) (a b d : Int) (aT aN aA : Addr) (w : World) (hV : Vok w aT) (hE : Eok w aN aA) (hK : Ints w ka kn kc [a, b, d]) (hb : 1 ≤ b ∧ b ≤ 4) :
    Calls Tryz.prog 119 #[.pointer (some ⟨cb, 0, none⟩), .iface 161 (.agg #[.int .i64 i, .iface t u, .iface t' u', .iface t2 u2]), .slice ka kn kc] w fun r w' => TaAns (nz (tyOp 27 [a, b, d])) r ∧ Below w.heap.size w w' := by
  have a0 := ta_miss (S := 161) (T := 181) Tryz.underlying181 Tryz.zeroValue181 (by decide) 75
  have a1 := ta_miss (S := 161) (T := 183) Tryz.underlying183 Tryz.zeroValue183 (by decide) 75
  have a2 := ta_miss (S := 161) (T := 185) Tryz.underlying185 Tryz.zeroValue185 (by decide) 75
  have a3 := ta_miss (S := 161) (T := 187) Tryz.underlying187 Tryz.zeroValue187 (by decide) 75
  have a4 := ta_miss (S := 161) (T := 189) Tryz.underlying189 Tryz.zeroValue189 (by decide) 75
  have a5 := ta_miss (S := 161) (T := 153) Tryz.underlying153 Tryz.zeroValue153 (by decide) 75
  have a6 := ta_miss (S := 161) (T := 154) Tryz.underlying154 Tryz.zeroValue154 (by decide) 75
  have a7 := ta_miss (S := 161) (T := 156) Tryz.underlying156 Tryz.zeroValue156 (by decide) 75
  have a8 := ta_miss (S := 161) (T := 158) Tryz.underlying158 Tryz.zeroValue158 (by decide) 75
  have a9 := ta_hit (T := 161) Tryz.underlying161 75
  obtain ⟨bk, ok, rfl, lk, ck0⟩ := hK.cells 0 (by simp)
  have ck1 : w.cell? ⟨bk, ok + 1, none⟩ = some (.int .i64 b) := by
    obtain ⟨b2, o2, e2, _, c2⟩ := hK.cells 1 (by simp)
    obtain ⟨rfl, rfl⟩ : bk = b2 ∧ ok = o2 := by simpa using e2
    simpa using c2
  have ck2 : w.cell? ⟨bk, ok + 2, none⟩ = some (.int .i64 d) := by
    obtain ⟨b2, o2, e2, _, c2⟩ := hK.cells 2 (by simp)
    obtain ⟨rfl, rfl⟩ : bk = b2 ∧ ok = o2 := by simpa using e2
    simpa using c2
  obtain rfl : kn = 3 := hK.len.symm
  simp only [List.getElem_cons_zero, Nat.add_zero] at ck0
  have B0 := (Below.refl w.heap.size w).alloc (Nat.le_refl _) (.cells #[.int .i64 i, .iface t u, .iface t' u', .iface t2 u2] 161)
  have R0 := Row.new w #[.int .i64 i, .iface t u, .iface t' u', .iface t2 u2] 161
  have V0 := hV.below B0 (Nat.le_refl _)
  have HC := hide (fun W hW => choiceType_any a b d aT W hW hb)
  generalize nz (tyOp 27 [a, b, d]) = ot at HC ⊢
  clear hb
  clear hK hE hV
  go_enter Tryz.func119, Tryz.ntmps119
  have W0E : ∃ W0, W0 = w.alloc (.cells #[.int .i64 i, .iface t u, .iface t' u', .iface t2 u2] 161) := ⟨_, rfl⟩
  go_wp2_with fail
  obtain ⟨W0, hW0⟩ := W0E
  rw [← hW0] at B0 R0 V0 ⊢
  have C0 := (B0.cell (p := ⟨bk, ok, none⟩) lk).trans ck0
  have C1 := (B0.cell (p := ⟨bk, ok + 1, none⟩) lk).trans ck1
  have C2 := (B0.cell (p := ⟨bk, ok + 2, none⟩) lk).trans ck2
  have LR := R0.lt
  have LK : bk < W0.heap.size := Nat.lt_of_lt_of_le lk B0.size
  have D1 : Below W0.heap.size W0 W0.drew := (Below.refl _ _).drew
  have keep : ∀ w', Below W0.heap.size W0 w' → w'.cell? ⟨bk, ok, none⟩ = some (.int .i64 a) ∧ w'.cell? ⟨bk, ok + 1, none⟩ = some (.int .i64 b) ∧ w'.cell? ⟨bk, ok + 2, none⟩ = some (.int .i64 d) := fun w' hb => ⟨(hb.cell (p := ⟨bk, ok, none⟩) LK).trans C0, (hb.cell (p := ⟨bk, ok + 1, none⟩) LK).trans C1, (hb.cell (p := ⟨bk, ok + 2, none⟩) LK).trans C2⟩
  have KP := hide keep
  have q1 := keep _ D1
  have V1 := V0.below D1 (Nat.le_refl _)
  clear hW0 R0 keep V0 ck0 C0 ck1 C1 ck2 C2
  go_region_held3 (fun w' => w'.cell? ⟨bk, ok, none⟩ = some (.int .i64 a) ∧ w'.cell? ⟨bk, ok + 1, none⟩ = some (.int .i64 b) ∧ w'.cell? ⟨bk, ok + 2, none⟩ = some (.int .i64 d)) (first | assumption | go_keep)
    (first | (go_at_call 129; refine (unhide HC _ V1).mono ?_; rintro r w2 ⟨hr, hb2⟩; change r = _ at hr; subst hr; have G2 := D1.trans (hb2.mono D1.size); have q2 := unhide KP _ G2))
  go_wp2_with fail
  exact bodyPost_ret (v := .tuple #[.int .i64 (ot.getD 0), errT ot.isSome aT]) (by simp [results, Tryz.results119, go_sem]) rfl ⟨TaAns.of_ot (aT := aT) rfl, B0.trans (G2.mono B0.size)⟩

end Go.Proofs.YtpbopjgmiaoomaaGreatDoor

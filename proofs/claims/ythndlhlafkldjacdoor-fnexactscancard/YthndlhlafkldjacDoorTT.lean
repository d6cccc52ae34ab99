/-
  The walks over the program's readers: texts, signs. Own work.
-/
import Derived.Test.YthndlhlafkldjacDoorTR
import Derived.Test.YthndlhlafkldjacDoorShelf
import Derived.Lib.IndexLaws
namespace Go.Proofs.YthndlhlafkldjacDoor
open Go.RowKit
set_option linter.unusedVariables false
variable {aS aB aT : Addr}

theorem at_toL {y : ByteArray} {n : Nat} (h : n < y.size) : (toL y)[n]? = some y[n] := by
  have h' : n < (toL y).length := by rw [toL_size]; exact h
  rw [List.getElem?_eq_getElem h']; rfl

set_option maxHeartbeats 1600000 in
theorem readQuoted_any (r : ByteArray) (w : World) (hs : r.size ≤ 1048576) (h0 : 0 < r.size) (S : Snt w aS aB aT) :
    Calls Tryd.prog 83 #[.string r] w fun e w' => e = .returned (rdV aS aB aT (oneText ((toL r).drop 1))) ∧ Below w.heap.size w w' := by
  have R0 := Row.new w #[.int .i64 0, .int .i64 0, .string ⟨#[]⟩, .int .i64 0] 49
  have B0 := (Below.refl w.heap.size w).alloc (Nat.le_refl _) (.cells #[.int .i64 0, .int .i64 0, .string ⟨#[]⟩, .int .i64 0] 49)
  have hg := (S.below B0 (Nat.le_refl _)).gT
  have hbig := S.big
  have n1 : w.heap.size ≠ 7 := by omega
  have n2 : 7 ≠ w.heap.size := by omega
  have i0 : (1 : Int) ≤ (r.size : Int) := by omega
  have Hy := hide (toL_rest r 1)
  have hys : (r.extract 1 r.size).size = r.size - 1 := by rw [ByteArray.size_extract]; omega
  go_enter Tryd.func83, Tryd.ntmps83
  go_wp2_with fail
  generalize w.alloc (.cells #[.int .i64 0, .int .i64 0, .string ⟨#[]⟩, .int .i64 0] 49) = W at R0 B0 hg ⊢
  generalize r.extract 1 r.size = y at Hy hys ⊢
  have hrl := runL_le nmB (toL y)
  rw [toL_size] at hrl
  refine (runOf_nm y _ (by unfold maxLen; omega)).mono ?_
  rintro e w1 ⟨rfl, hw⟩
  rw [hw]
  clear hw
  obtain ⟨d0, d1, d2, d3, df⟩ := row4 R0
  have HO := hide (show oneText ((toL r).drop 1) = if 32 < runL nmB (toL y) ∨ (toL y)[runL nmB (toL y)]? ≠ some 34 then .bad 3 else .tok 2 0 ((toL y).take (runL nmB (toL y))) (runL nmB (toL y) + 2) by rw [← unhide Hy]; rfl)
  have Hx := hide (show toL (y.extract 0 (runL nmB (toL y))) = (toL y).take (runL nmB (toL y)) by rw [toL_extract, List.drop_zero, Nat.sub_zero])
  generalize runL nmB (toL y) = n at hrl HO Hx ⊢
  by_cases h32 : 32 < n
  · have i32 : (32 : Int) < (n : Int) := by omega
    have HO := hide ((unhide HO).trans (if_pos (.inl h32)))
    go_wp2_with fail
    go_region
    go_wp2_with fail
    have BF := put4_below (b := w.heap.size) B0 (Nat.le_refl _) (.int .i64 0) (.int .i64 0) (.string ⟨#[]⟩) (.int .i64 0)
    obtain ⟨g0, g1, g2, g3⟩ := put4_drew R0 (.int .i64 0) (.int .i64 0) (.string ⟨#[]⟩) (.int .i64 0)
    exact bodyPost_ret (res_tok3 Tryd.results83 rfl g0 g1 g2 g3) rfl ⟨by rw [unhide HO, rd_bad3]; rfl, BF.drew⟩
  have i32 : ¬ ((32 : Int) < (n : Int)) := by omega
  by_cases hn : n = y.size
  · have e : (toL y)[n]? ≠ some 34 := by rw [List.getElem?_eq_none (by rw [toL_size]; omega)]; simp
    have HO := hide ((unhide HO).trans (if_pos (.inr e)))
    clear e
    have eb : ((n : Int) == ((r.size - 1 : Nat) : Int)) = true := beq_iff_eq.2 (by omega)
    have eb2 : ((n : Int) == (y.size : Int)) = true := beq_iff_eq.2 (by omega)
    go_wp2_with fail
    go_region
    go_wp2_with fail
    have BF := put4_below (b := w.heap.size) B0 (Nat.le_refl _) (.int .i64 0) (.int .i64 0) (.string ⟨#[]⟩) (.int .i64 0)
    obtain ⟨g0, g1, g2, g3⟩ := put4_drew R0 (.int .i64 0) (.int .i64 0) (.string ⟨#[]⟩) (.int .i64 0)
    exact bodyPost_ret (res_tok3 Tryd.results83 rfl g0 g1 g2 g3) rfl ⟨by rw [unhide HO, rd_bad3]; rfl, BF.drew⟩
  have hlt : n < y.size := by omega
  have ilt : (n : Int) < (y.size : Int) := by omega
  have ilt2 : (n : Int) < ((r.size - 1 : Nat) : Int) := by omega
  have eb : ((n : Int) == ((r.size - 1 : Nat) : Int)) = false := beq_eq_false_iff_ne.2 (by omega)
  have eb2 : ((n : Int) == (y.size : Int)) = false := beq_eq_false_iff_ne.2 (by omega)
  have ea := at_toL hlt
  by_cases h34 : (y[n].toNat : Int) = 34
  · have HB : y[n] = 34 := UInt8.toNat_inj.1 (by have : (34 : UInt8).toNat = 34 := rfl; omega)
    have e : ¬ (32 < n ∨ (toL y)[n]? ≠ some 34) := by rw [ea, HB]; simp; omega
    have HO := hide ((unhide HO).trans (if_neg e))
    clear e
    clear ea HB
    have e34 : ((y[n].toNat : Int) == 34) = true := beq_iff_eq.2 h34
    go_wp2_with fail
    generalize y.extract 0 n = x at Hx ⊢
    have BF := put4_below (b := w.heap.size) B0 (Nat.le_refl _) (.int .i64 2) (.int .i64 0) (.string x) (.int .i64 0)
    obtain ⟨g0, g1, g2, g3, _⟩ := row4 (put4_row R0 (.int .i64 2) (.int .i64 0) (.string x) (.int .i64 0))
    simp only [put4] at g0 g1 g2 g3
    refine bodyPost_ret (res_tok3 Tryd.results83 rfl g0 g1 g2 g3) rfl ⟨?_, BF⟩
    rw [unhide HO, ← unhide Hx]
    simp only [rdV, ofL_toL]
    rw [Int.natCast_add]
    rfl
  · have e : (toL y)[n]? ≠ some 34 := by rw [ea]; intro k; exact h34 (by rw [Option.some.inj k]; rfl)
    have HO := hide ((unhide HO).trans (if_pos (.inr e)))
    clear ea e
    have e34 := beq_eq_false_iff_ne.2 h34
    have e34b : ((y[n].toNat : Int) != 34) = true := bne_iff_ne.2 h34
    go_wp2_with fail
    go_region
    go_wp2_with fail
    have BF := put4_below (b := w.heap.size) B0 (Nat.le_refl _) (.int .i64 0) (.int .i64 0) (.string ⟨#[]⟩) (.int .i64 0)
    obtain ⟨g0, g1, g2, g3⟩ := put4_drew R0 (.int .i64 0) (.int .i64 0) (.string ⟨#[]⟩) (.int .i64 0)
    exact bodyPost_ret (res_tok3 Tryd.results83 rfl g0 g1 g2 g3) rfl ⟨by rw [unhide HO, rd_bad3]; rfl, BF.drew⟩

theorem ix_none {l : List UInt8} {c : UInt8} (h : Lib.indexByte l c < 0) : l.contains c = false := by
  have h1 : Lib.indexByte l c = -1 := by have := Lib.indexByte_ge l c; omega
  rw [← Bool.not_eq_true, List.contains_iff_mem]
  intro hm
  obtain ⟨i, hi, e⟩ := List.getElem_of_mem hm
  exact Lib.indexByte_none h1 i (by rw [List.getElem?_eq_getElem hi, e])

theorem ix_some {l : List UInt8} {c : UInt8} (h : ¬ Lib.indexByte l c < 0) : l.contains c = true := by
  obtain ⟨o, ho⟩ := Int.eq_ofNat_of_zero_le (a := Lib.indexByte l c) (by omega)
  have := (Lib.indexByte_some ho).1
  rw [List.contains_iff_mem]
  exact List.mem_of_getElem? this

theorem toU8 (c : UInt8) : (c.toNat : Int).toNat.toUInt8 = c := by simp

/-- the world in which a reader works -/
theorem rd_start (w : World) (S : Snt w aS aB aT) : ∃ W, w.alloc (.cells #[.int .i64 0, .int .i64 0, .string ⟨#[]⟩, .int .i64 0] 49) = W ∧ Row W w.heap.size #[.int .i64 0, .int .i64 0, .string ⟨#[]⟩, .int .i64 0] 49 ∧ Below w.heap.size w W ∧ Snt W aS aB aT := by
  have B0 := (Below.refl w.heap.size w).alloc (Nat.le_refl _) (.cells #[.int .i64 0, .int .i64 0, .string ⟨#[]⟩, .int .i64 0] 49)
  exact ⟨_, rfl, Row.new w _ _, B0, S.below B0 (Nat.le_refl _)⟩

theorem sg_hit {x : ByteArray} {l y : List UInt8} (hx : toL x = l.take 2) (h : (x.toList == y) = true) (hy : y ∈ signs2) : signs2.contains (l.take 2) = true ∧ 2 ≤ l.length := by
  rw [beq_iff_eq, ByteArray.toList_eq] at h
  have e : l.take 2 = y := hx.symm.trans h
  rw [e, List.contains_iff_mem]
  refine ⟨hy, ?_⟩
  have h2 : ∀ z ∈ signs2, z.length = 2 := by decide
  have := h2 _ hy
  rw [← e, List.length_take] at this
  omega

theorem sg_miss {x : ByteArray} {l : List UInt8} (hx : toL x = l.take 2) (h : ∀ y ∈ signs2, (x.toList == y) = false) : signs2.contains (l.take 2) = false := by
  rw [← Bool.not_eq_true, List.contains_iff_mem]
  intro hm
  have := h _ hm
  rw [beq_eq_false_iff_ne, ByteArray.toList_eq] at this
  exact this hx

set_option maxHeartbeats 3200000 in
theorem readSign_any (r : ByteArray) (w : World) (hs : r.size ≤ 1048576) (h0 : 0 < r.size) (S : Snt w aS aB aT) :
    Calls Tryd.prog 84 #[.string r] w fun e w' => e = .returned (rdV aS aB aT (oneSign r[0] (toL r))) ∧ Below w.heap.size w w' := by
  obtain ⟨W, hW, R0, B0, SW⟩ := rd_start w S
  have hg := SW.gB
  have hbig := S.big
  have n1 : w.heap.size ≠ 6 := by omega
  have n2 : 6 ≠ w.heap.size := by omega
  have i0 : (1 : Int) ≤ (r.size : Int) := by omega
  have im1 : 0 ≤ min (2 : Int) (r.size : Int) := by omega
  have im2 : min (2 : Int) (r.size : Int) ≤ (r.size : Int) := by omega
  have Hx := hide (show toL (r.extract 0 (min 2 (r.size : Int)).toNat) = (toL r).take 2 by
    rw [toL_extract, List.drop_zero, Nat.sub_zero]
    rcases Nat.lt_or_ge r.size 2 with h | h
    · rw [show (min (2 : Int) (r.size : Int)).toNat = r.size by omega, List.take_of_length_le (by rw [toL_size]; exact Nat.le_refl _), List.take_of_length_le (by rw [toL_size]; omega)]
    · rw [show (min (2 : Int) (r.size : Int)).toNat = 2 by omega])
  have H2 := hide (show toL (r.extract 0 2) = (toL r).take 2 by rw [toL_extract, List.drop_zero])
  have H1 := hide (show toL (r.extract 0 1) = [r[0]] by
    have h := drop_cons r 0 h0
    rw [List.drop_zero] at h
    rw [toL_extract, List.drop_zero, h]; rfl)
  obtain ⟨d0, d1, d2, d3, df⟩ := row4 R0
  rcases Bool.eq_false_or_eq_true ((r.extract 0 (min 2 (r.size : Int)).toNat).toList == [61, 62]) with h0 | h0
  · have Hh := hide (sg_hit (unhide Hx) h0 (by decide))
    have i2 : (2 : Int) ≤ (r.size : Int) := by have := (unhide Hh).2; rw [toL_size] at this; omega
    go_enter Tryd.func84, Tryd.ntmps84
    go_wp2_with fail
    generalize r.extract 0 2 = x2 at H2 ⊢
    have BF := put4_below (b := w.heap.size) B0 (Nat.le_refl _) (.int .i64 5) (.int .i64 0) (.string x2) (.int .i64 0)
    obtain ⟨g0, g1, g2, g3, _⟩ := row4 (put4_row R0 (.int .i64 5) (.int .i64 0) (.string x2) (.int .i64 0))
    simp only [put4] at g0 g1 g2 g3
    refine bodyPost_ret (res_tok3 Tryd.results84 rfl g0 g1 g2 g3) rfl ⟨?_, BF⟩
    rw [oneSign, if_pos (unhide Hh).1, ← unhide H2]
    simp only [rdV, ofL_toL]
    rfl
  rcases Bool.eq_false_or_eq_true ((r.extract 0 (min 2 (r.size : Int)).toNat).toList == [61, 61]) with h1 | h1
  · have Hh := hide (sg_hit (unhide Hx) h1 (by decide))
    have i2 : (2 : Int) ≤ (r.size : Int) := by have := (unhide Hh).2; rw [toL_size] at this; omega
    go_enter Tryd.func84, Tryd.ntmps84
    go_wp2_with fail
    generalize r.extract 0 2 = x2 at H2 ⊢
    have BF := put4_below (b := w.heap.size) B0 (Nat.le_refl _) (.int .i64 5) (.int .i64 0) (.string x2) (.int .i64 0)
    obtain ⟨g0, g1, g2, g3, _⟩ := row4 (put4_row R0 (.int .i64 5) (.int .i64 0) (.string x2) (.int .i64 0))
    simp only [put4] at g0 g1 g2 g3
    refine bodyPost_ret (res_tok3 Tryd.results84 rfl g0 g1 g2 g3) rfl ⟨?_, BF⟩
    rw [oneSign, if_pos (unhide Hh).1, ← unhide H2]
    simp only [rdV, ofL_toL]
    rfl
  rcases Bool.eq_false_or_eq_true ((r.extract 0 (min 2 (r.size : Int)).toNat).toList == [33, 61]) with h2 | h2
  · have Hh := hide (sg_hit (unhide Hx) h2 (by decide))
    have i2 : (2 : Int) ≤ (r.size : Int) := by have := (unhide Hh).2; rw [toL_size] at this; omega
    go_enter Tryd.func84, Tryd.ntmps84
    go_wp2_with fail
    generalize r.extract 0 2 = x2 at H2 ⊢
    have BF := put4_below (b := w.heap.size) B0 (Nat.le_refl _) (.int .i64 5) (.int .i64 0) (.string x2) (.int .i64 0)
    obtain ⟨g0, g1, g2, g3, _⟩ := row4 (put4_row R0 (.int .i64 5) (.int .i64 0) (.string x2) (.int .i64 0))
    simp only [put4] at g0 g1 g2 g3
    refine bodyPost_ret (res_tok3 Tryd.results84 rfl g0 g1 g2 g3) rfl ⟨?_, BF⟩
    rw [oneSign, if_pos (unhide Hh).1, ← unhide H2]
    simp only [rdV, ofL_toL]
    rfl
  rcases Bool.eq_false_or_eq_true ((r.extract 0 (min 2 (r.size : Int)).toNat).toList == [60, 61]) with h3 | h3
  · have Hh := hide (sg_hit (unhide Hx) h3 (by decide))
    have i2 : (2 : Int) ≤ (r.size : Int) := by have := (unhide Hh).2; rw [toL_size] at this; omega
    go_enter Tryd.func84, Tryd.ntmps84
    go_wp2_with fail
    generalize r.extract 0 2 = x2 at H2 ⊢
    have BF := put4_below (b := w.heap.size) B0 (Nat.le_refl _) (.int .i64 5) (.int .i64 0) (.string x2) (.int .i64 0)
    obtain ⟨g0, g1, g2, g3, _⟩ := row4 (put4_row R0 (.int .i64 5) (.int .i64 0) (.string x2) (.int .i64 0))
    simp only [put4] at g0 g1 g2 g3
    refine bodyPost_ret (res_tok3 Tryd.results84 rfl g0 g1 g2 g3) rfl ⟨?_, BF⟩
    rw [oneSign, if_pos (unhide Hh).1, ← unhide H2]
    simp only [rdV, ofL_toL]
    rfl
  have Hm := hide (sg_miss (unhide Hx) (by
    intro y hy
    simp only [signs2, List.mem_cons, List.not_mem_nil, or_false] at hy
    rcases hy with rfl | rfl | rfl | rfl <;> assumption))
  go_enter Tryd.func84, Tryd.ntmps84
  go_wp2_with fail
  clear hW
  refine (Tryd.strings_IndexByte _ _ _).mono ?_
  rintro e w1 ⟨rfl, hw⟩
  rw [hw, toU8]
  clear hw
  rw [show (⟨#[60, 43, 45, 42, 47, 37, 124, 38, 92, 40, 41, 123, 125, 44, 59, 61]⟩ : ByteArray).data.toList = signs1 from rfl]
  by_cases hi : Lib.indexByte signs1 r[0] < 0
  · have Hi := hide (ix_none hi)
    go_wp2_with fail
    go_region
    go_wp2_with fail
    have BF := put4_below (b := w.heap.size) B0 (Nat.le_refl _) (.int .i64 0) (.int .i64 0) (.string ⟨#[]⟩) (.int .i64 0)
    obtain ⟨g0, g1, g2, g3⟩ := put4_drew R0 (.int .i64 0) (.int .i64 0) (.string ⟨#[]⟩) (.int .i64 0)
    refine bodyPost_ret (res_tok3 Tryd.results84 rfl g0 g1 g2 g3) rfl ⟨?_, BF.drew⟩
    rw [oneSign, if_neg (by rw [unhide Hm]; decide), if_neg (by rw [unhide Hi]; decide), rd_bad2]
    rfl
  · have Hi := hide (ix_some hi)
    go_wp2_with fail
    generalize r.extract 0 1 = x1 at H1 ⊢
    have BF := put4_below (b := w.heap.size) B0 (Nat.le_refl _) (.int .i64 5) (.int .i64 0) (.string x1) (.int .i64 0)
    obtain ⟨g0, g1, g2, g3, _⟩ := row4 (put4_row R0 (.int .i64 5) (.int .i64 0) (.string x1) (.int .i64 0))
    simp only [put4] at g0 g1 g2 g3
    refine bodyPost_ret (res_tok3 Tryd.results84 rfl g0 g1 g2 g3) rfl ⟨?_, BF⟩
    rw [oneSign, if_neg (by rw [unhide Hm]; decide), if_pos (unhide Hi), ← unhide H1]
    simp only [rdV, ofL_toL]
    rfl

end Go.Proofs.YthndlhlafkldjacDoor

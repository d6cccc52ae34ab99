/-
  The walks over the program's readers: words, texts. Own work.
-/
import Derived.Test.YthndlhlafkldjacDoorTH
import Derived.Test.YthndlhlafkldjacDoorTF
namespace Go.Proofs.YthndlhlafkldjacDoor
open Go.RowKit
set_option linter.unusedVariables false
variable {aS aB aT : Addr}

/-- what a reader answers -/
def rdV (aS aB aT : Addr) : One → Value
  | .bad c => .tuple #[.agg #[.int .i64 0, .int .i64 0, .string ⟨#[]⟩, .int .i64 0], .int .i64 0, causeV aS aB aT c]
  | .tok k m s w => .tuple #[.agg #[.int .i64 k, .int .i64 m, .string (ofL s), .int .i64 0], .int .i64 (w : Int), .nilIface]

/-- the four cells behind a drawn order -/
theorem put4_drew {W : World} {b : Nat} {u0 u1 u2 u3 : Value} {t : TypeId} (h : Row W b #[u0, u1, u2, u3] t) (v0 v1 v2 v3 : Value) :
    ((((W.setCell ⟨b, 0, none⟩ v0).setCell ⟨b, 1, none⟩ v1).setCell ⟨b, 2, none⟩ v2).setCell ⟨b, 3, none⟩ v3).drew.cell? ⟨b, 0, none⟩ = some v0 ∧ ((((W.setCell ⟨b, 0, none⟩ v0).setCell ⟨b, 1, none⟩ v1).setCell ⟨b, 2, none⟩ v2).setCell ⟨b, 3, none⟩ v3).drew.cell? ⟨b, 1, none⟩ = some v1 ∧
    ((((W.setCell ⟨b, 0, none⟩ v0).setCell ⟨b, 1, none⟩ v1).setCell ⟨b, 2, none⟩ v2).setCell ⟨b, 3, none⟩ v3).drew.cell? ⟨b, 2, none⟩ = some v2 ∧ ((((W.setCell ⟨b, 0, none⟩ v0).setCell ⟨b, 1, none⟩ v1).setCell ⟨b, 2, none⟩ v2).setCell ⟨b, 3, none⟩ v3).drew.cell? ⟨b, 3, none⟩ = some v3 := by
  have R : Row ((((W.setCell ⟨b, 0, none⟩ v0).setCell ⟨b, 1, none⟩ v1).setCell ⟨b, 2, none⟩ v2).setCell ⟨b, 3, none⟩ v3).drew b #[v0, v1, v2, v3] t := ⟨(put4_row h v0 v1 v2 v3).out⟩
  obtain ⟨g0, g1, g2, g3, _⟩ := row4 R
  exact ⟨g0, g1, g2, g3⟩

/-- nothing, at a bad token -/
theorem rd_bad3 (aS aB aT : Addr) : rdV aS aB aT (.bad 3) = .tuple #[.agg #[.int .i64 0, .int .i64 0, .string ⟨#[]⟩, .int .i64 0], .int .i64 0, .iface 184 (.pointer (some aT))] := rfl

theorem rd_bad2 (aS aB aT : Addr) : rdV aS aB aT (.bad 2) = .tuple #[.agg #[.int .i64 0, .int .i64 0, .string ⟨#[]⟩, .int .i64 0], .int .i64 0, .iface 184 (.pointer (some aB))] := rfl

set_option maxHeartbeats 1600000 in
theorem readWord_any (r : ByteArray) (w : World) (hs : r.size ≤ 1048576) (S : Snt w aS aB aT) :
    Calls Tryd.prog 82 #[.string r] w fun e w' => e = .returned (rdV aS aB aT (oneWord (toL r))) ∧ Below w.heap.size w w' := by
  have hrl := runL_le wdB (toL r)
  rw [toL_size] at hrl
  have R0 := Row.new w #[.int .i64 0, .int .i64 0, .string ⟨#[]⟩, .int .i64 0] 49
  have B0 := (Below.refl w.heap.size w).alloc (Nat.le_refl _) (.cells #[.int .i64 0, .int .i64 0, .string ⟨#[]⟩, .int .i64 0] 49)
  have hg := (S.below B0 (Nat.le_refl _)).gT
  have hbig := S.big
  have n1 : w.heap.size ≠ 7 := by omega
  have n2 : 7 ≠ w.heap.size := by omega
  go_enter Tryd.func82, Tryd.ntmps82
  go_wp2_with fail
  generalize w.alloc (.cells #[.int .i64 0, .int .i64 0, .string ⟨#[]⟩, .int .i64 0] 49) = W at R0 B0 hg ⊢
  refine (runOf_wd r _ (by unfold maxLen; omega)).mono ?_
  rintro e w1 ⟨rfl, hw⟩
  rw [hw]
  clear hw
  obtain ⟨d0, d1, d2, d3, df⟩ := row4 R0
  by_cases h32 : 32 < runL wdB (toL r)
  · have i32 : (32 : Int) < (runL wdB (toL r) : Int) := by omega
    go_wp2_with fail
    go_region
    go_wp2_with fail
    have BF := put4_below (b := w.heap.size) B0 (Nat.le_refl _) (.int .i64 0) (.int .i64 0) (.string ⟨#[]⟩) (.int .i64 0)
    obtain ⟨g0, g1, g2, g3⟩ := put4_drew R0 (.int .i64 0) (.int .i64 0) (.string ⟨#[]⟩) (.int .i64 0)
    refine bodyPost_ret (res_tok3 Tryd.results82 rfl g0 g1 g2 g3) rfl ⟨?_, BF.drew⟩
    rw [oneWord, if_pos h32, rd_bad3]
    rfl
  · have i32 : ¬ ((32 : Int) < (runL wdB (toL r) : Int)) := by omega
    have irl : (runL wdB (toL r) : Int) ≤ (r.size : Int) := by omega
    have Ho := hide (show oneWord (toL r) = .tok (if isWd ((toL r).take (runL wdB (toL r))) then 4 else 3) 0 ((toL r).take (runL wdB (toL r))) (runL wdB (toL r)) by rw [oneWord, if_neg h32])
    have Hx := hide (show toL (r.extract 0 (runL wdB (toL r))) = (toL r).take (runL wdB (toL r)) by rw [toL_extract, List.drop_zero, Nat.sub_zero])
    go_wp2_with fail
    generalize r.extract 0 (runL wdB (toL r)) = x at Hx ⊢
    refine (isWord_any x _).mono ?_
    rintro e w1 ⟨rfl, hw⟩
    rw [hw]
    clear hw
    cases hw : isWd (toL x)
    · have Hw := hide hw
      clear hw
      go_wp2_with fail
      have BF := put4_below (b := w.heap.size) B0 (Nat.le_refl _) (.int .i64 3) (.int .i64 0) (.string x) (.int .i64 0)
      obtain ⟨g0, g1, g2, g3, _⟩ := row4 (put4_row R0 (.int .i64 3) (.int .i64 0) (.string x) (.int .i64 0))
      simp only [put4] at g0 g1 g2 g3
      refine bodyPost_ret (res_tok3 Tryd.results82 rfl g0 g1 g2 g3) rfl ⟨?_, BF⟩
      rw [unhide Ho, ← unhide Hx, unhide Hw]
      simp only [rdV, ofL_toL]
      rfl
    · have Hw := hide hw
      clear hw
      go_wp2_with fail
      have BF := put4_below (b := w.heap.size) B0 (Nat.le_refl _) (.int .i64 4) (.int .i64 0) (.string x) (.int .i64 0)
      obtain ⟨g0, g1, g2, g3, _⟩ := row4 (put4_row R0 (.int .i64 4) (.int .i64 0) (.string x) (.int .i64 0))
      simp only [put4] at g0 g1 g2 g3
      refine bodyPost_ret (res_tok3 Tryd.results82 rfl g0 g1 g2 g3) rfl ⟨?_, BF⟩
      rw [unhide Ho, ← unhide Hx, unhide Hw]
      simp only [rdV, ofL_toL]
      rfl

end Go.Proofs.YthndlhlafkldjacDoor

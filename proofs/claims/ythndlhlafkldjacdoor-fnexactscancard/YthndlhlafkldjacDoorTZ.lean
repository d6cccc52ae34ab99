/-
  The walk over the program's Scan. Own work.
-/
import Derived.Test.YthndlhlafkldjacDoorTY
namespace Go.Proofs.YthndlhlafkldjacDoor
open Go.RowKit
set_option linter.unusedVariables false
variable {aS aB aT : Addr}

set_option maxHeartbeats 1600000 in
theorem iScan_any (t : ByteArray) (w : World) (ht : t.size ≤ 1048576) (S : Snt w aS aB aT) :
    Calls Tryd.prog 7 #[.string t] w fun e w' => ScAns w (scanR t) e w' := by
  have F0 := Row.new w #[.int .i64 0, .int .i64 0] 24
  have B0 := (Below.refl w.heap.size w).alloc (Nat.le_refl _) (.cells #[.int .i64 0, .int .i64 0] 24)
  have S0 := S.below B0 (Nat.le_refl _)
  have z0 : (w.alloc (.cells #[.int .i64 0, .int .i64 0] 24)).heap.size = w.heap.size + 1 := by simp
  go_enter Tryd.func7, Tryd.ntmps7
  go_wp2_with fail
  generalize w.alloc (.cells #[.int .i64 0, .int .i64 0] 24) = W at F0 B0 S0 z0 ⊢
  refine (scan_any t W ht S0).mono ?_
  rintro e w1 (⟨hc, ha, x, c, rfl, hown, hok, hb1⟩ | ⟨hn, h1, h3, b, rfl, R1, hb1⟩)
  · have F1 := F0.after hb1 (Nat.le_refl _)
    have B1 := B0.trans (hb1.mono B0.size)
    have HC := hide hc
    have HA := hide ha
    have HK := hide hok
    have z1 := hb1.size
    clear hc ha hok hb1 F0 B0 S0
    generalize hT : (scanR t).toks = T at *
    have HT := hide hT
    clear hT
    go_wp2_with fail
    refine (faultOf_nil w1).mono ?_
    rintro e w2 ⟨rfl, hb2⟩
    have F2 := F1.after hb2 (Nat.le_refl _)
    have B2 := B1.trans (hb2.mono B1.size)
    have own2 := ownsT_below hown hb2
    clear hb2 F1 B1 hown
    have q0 := F2.cell 0
    have q1 := F2.cell 1
    have qf := fun j => F2.frozen j
    simp only [List.getElem?_toArray, List.getElem?_cons_zero, List.getElem?_cons_succ] at q0 q1
    go_wp2_with fail
    have RF := (F2.set 0 (.int .i64 0)).set 1 (.int .i64 0)
    have BF := (B2.setCell (p := ⟨w.heap.size, 0, none⟩) (Nat.le_refl _) (.int .i64 0)).setCell (p := ⟨w.heap.size, 1, none⟩) (Nat.le_refl _) (.int .i64 0)
    have g0 : _ = some (Value.int .i64 0) := RF.cell 0
    have g1 : _ = some (Value.int .i64 0) := RF.cell 1
    have OF : ((w2.setCell ⟨w.heap.size, 0, none⟩ (.int .i64 0)).setCell ⟨w.heap.size, 1, none⟩ (.int .i64 0)).ownsRow w.heap.size 49 4 (.slice x T.length c) T.length (tokC T) :=
      (ownsT_of_block own2 (fun p hp => by
        have h1 : W.heap.size ≤ p.block := by subst hp; exact (own2.lt _ rfl).1
        rw [heap_setCell_other _ _ _ _ (by show p.block ≠ w.heap.size; omega), heap_setCell_other _ _ _ _ (by show p.block ≠ w.heap.size; omega)])).mono (by omega)
    refine bodyPost_ret (res_sf Tryd.results7 rfl g0 g1) rfl ?_
    unfold ScAns
    rw [unhide HT, unhide HC, unhide HA]
    exact ⟨x, c, rfl, OF, unhide HK, BF⟩
  · have F1 := F0.after hb1 (Nat.le_refl _)
    have B1 := B0.trans (hb1.mono B0.size)
    have S1 := S0.below hb1 (Nat.le_refl _)
    have HN := hide hn
    clear hn hb1 F0 B0 S0
    generalize hC : (scanR t).code = C at *
    generalize hA : (scanR t).at_ = A at *
    have HC := hide hC
    have HA := hide hA
    clear hC hA
    go_wp2_with fail
    refine (faultOf_any b A C w1 S1 R1 ⟨h1, h3⟩).mono ?_
    rintro e w2 ⟨rfl, hb2⟩
    have F2 := F1.after hb2 (Nat.le_refl _)
    have B2 := B1.trans (hb2.mono B1.size)
    clear hb2 F1 B1 R1 S1
    have q0 := F2.cell 0
    have q1 := F2.cell 1
    have qf := fun j => F2.frozen j
    simp only [List.getElem?_toArray, List.getElem?_cons_zero, List.getElem?_cons_succ] at q0 q1
    go_wp2_with fail
    have RF := (F2.set 0 (.int .i64 C)).set 1 (.int .i64 A)
    have BF := (B2.setCell (p := ⟨w.heap.size, 0, none⟩) (Nat.le_refl _) (.int .i64 C)).setCell (p := ⟨w.heap.size, 1, none⟩) (Nat.le_refl _) (.int .i64 A)
    have g0 : _ = some (Value.int .i64 C) := RF.cell 0
    have g1 : _ = some (Value.int .i64 A) := RF.cell 1
    refine bodyPost_ret (res_sf Tryd.results7 rfl g0 g1) rfl ?_
    unfold ScAns
    rw [unhide HN, unhide HC, unhide HA]
    exact ⟨none, 0, rfl, World.ownsRow_nil _ _ _ _, okT_nil, BF⟩

end Go.Proofs.YthndlhlafkldjacDoor

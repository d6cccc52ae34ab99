/-
  Scripts: the lines of a text. Own work.
-/
import Derived.Test.YthdoakeocaegkaaDoorXD
namespace Go.Proofs.YthdoakeocaegkaaDoor
open Go.RowKit
set_option linter.unusedVariables false

theorem split_parts (s sep : ByteArray) (c : UInt8) (h : toL sep = [c]) : Lib.splitB sep 0 (Lib.countB s sep) s = (splitC c (toL s)).map ofL ∧ Lib.countB s sep + 1 = (splitC c (toL s)).length := by
  obtain ⟨e1, e2⟩ := split_eq c (toL s)
  have h' : sep.data.toList = [c] := h
  have e3 := Lib.splitB_data sep 0 (Lib.countB s sep) s
  rw [h', show Lib.countB s sep = Lib.count (toL s) [c] by show Lib.count s.data.toList sep.data.toList = _; rw [h']; rfl] at e3
  have e4 := e3.trans e1
  rw [show Lib.countB s sep = Lib.count (toL s) [c] by show Lib.count s.data.toList sep.data.toList = _; rw [h']; rfl]
  refine ⟨?_, e2.symm⟩
  rw [← e4, List.map_map]
  conv => lhs; rw [← List.map_id (Lib.splitB sep 0 (Lib.count (toL s) [c]) s)]
  exact List.map_congr_left fun x _ => (ofL_toL x).symm

/-- texts in memory -/
def SA (w : World) (g : Nat) (ss : List ByteArray) : Prop := g < w.heap.size ∧ ∀ j, (h : j < ss.length) → w.cell? ⟨g, j, none⟩ = some (.string ss[j])

theorem SA.below {w w' : World} {g B : Nat} {ss : List ByteArray} (h : SA w g ss) (hb : Below B w w') (hB : w.heap.size ≤ B) : SA w' g ss :=
  ⟨Nat.lt_of_lt_of_le h.1 hb.size, fun j hj => (hb.cell (p := ⟨g, j, none⟩) (Nat.lt_of_lt_of_le h.1 hB)).trans (h.2 j hj)⟩

def LnsA (w : World) (LL : List ByteArray) (e : Ending) (w' : World) : Prop := ∃ g c, e = .returned (.slice (some ⟨g, 0, none⟩) LL.length c) ∧ SA w' g LL ∧ Below w.heap.size w w'

set_option maxHeartbeats 1600000 in
theorem linesOf_any (s : ByteArray) (w : World) (hs : s.size ≤ 1048576) (hm : Mxl w) :
    Calls Tryd.prog 11 #[.string s] w fun e w' => LnsA w ((linesL (toL s)).map ofL) e w' := by
  obtain ⟨m, hm⟩ := hm
  obtain ⟨q1, q2⟩ := split_parts s ⟨#[10]⟩ 10 rfl
  have hz : (splitC 10 (toL s)).length ≤ s.size + 1 := by have := splitC_len 10 (toL s); rw [toL_size] at this; exact this
  have hne := splitC_ne 10 (toL s)
  have HS := hide (Tryd.strings_Split s ⟨#[10]⟩ m w (by omega) hm (by decide))
  rw [q1, q2] at HS
  unfold linesL
  generalize splitC 10 (toL s) = PP at HS hz hne
  obtain ⟨LL, HLL⟩ : ∃ LL, LL = (if PP.getLast? = some [] then PP.dropLast else PP).map ofL := ⟨_, rfl⟩
  rw [← HLL]
  obtain ⟨k, hk⟩ : ∃ k, PP.length = k + 1 := ⟨PP.length - 1, by have : 0 < PP.length := List.length_pos_iff.2 hne; omega⟩
  have hkl : k < PP.length := by omega
  have hlast : PP.getLast? = some PP[k] := by rw [List.getLast?_eq_getElem?, hk, Nat.add_sub_cancel, List.getElem?_eq_getElem hkl]
  have RW := Row.new w ((PP.map ofL).map Value.string).toArray 9
  have hcell : ∀ j, (h : j < PP.length) → (w.alloc (.cells ((PP.map ofL).map Value.string).toArray 9)).cell? ⟨w.heap.size, j, none⟩ = some (.string (ofL PP[j])) := fun j h => by
    rw [RW.cell j]
    simp [h]
  have HCl := hide hcell
  have ck := hcell k hkl
  have B1 := (Below.refl w.heap.size w).alloc (Nat.le_refl _) (.cells ((PP.map ofL).map Value.string).toArray 9)
  have hlt : w.heap.size < (w.alloc (.cells ((PP.map ofL).map Value.string).toArray 9)).heap.size := by simp
  have Hk := hide hk
  rw [hk] at HS
  have hk2 : k ≤ 1048576 := by omega
  have iz : ((k + 1 : Nat) : Int) - 1 = (k : Int) := by omega
  have ik : (k : Int) < ((k + 1 : Nat) : Int) := by omega
  by_cases hl : PP[k] = []
  · have HL := hide (show LL = (PP.take k).map ofL by rw [HLL, hlast, hl, if_pos rfl, List.dropLast_eq_take, unhide Hk, Nat.add_sub_cancel])
    have eb : ((ofL PP[k]).toList == []) = true := by
      rw [hl, ByteArray.toList_eq]
      rfl
    have HLen := hide (show ((PP.take k).map ofL).length = k by simp; omega)
    generalize ofL PP[k] = lv at ck eb
    clear hcell hlast hl hkl hz hne RW q1 q2 hk HLL
    go_enter Tryd.func11, Tryd.ntmps11
    go_wp2_with fail
    refine (unhide HS).mono ?_
    rintro e w1 ⟨rfl, hw1⟩
    rw [hw1]
    clear hw1
    generalize w.alloc (.cells ((PP.map ofL).map Value.string).toArray 9) = w1 at ck B1 hlt HCl ⊢
    go_wp2_with fail
    go_ret
    rw [unhide HL]
    refine ⟨w.heap.size, k + 1, by rw [unhide HLen]; rfl, ⟨hlt, fun j hj => ?_⟩, B1⟩
    rw [unhide HLen] at hj
    rw [unhide HCl j (by have := unhide Hk; omega)]
    simp
  · have HL := hide (show LL = PP.map ofL by rw [HLL, hlast, if_neg (fun e => hl (Option.some.inj e))])
    have eb : ((ofL PP[k]).toList == []) = false := by
      rw [beq_eq_false_iff_ne, ByteArray.toList_eq]
      show toL (ofL PP[k]) ≠ []
      rw [toL_ofL]
      exact hl
    generalize ofL PP[k] = lv at ck eb
    clear hcell hlast hl hkl hz hne RW q1 q2 hk HLL
    go_enter Tryd.func11, Tryd.ntmps11
    go_wp2_with fail
    refine (unhide HS).mono ?_
    rintro e w1 ⟨rfl, hw1⟩
    rw [hw1]
    clear hw1
    generalize w.alloc (.cells ((PP.map ofL).map Value.string).toArray 9) = w1 at ck B1 hlt HCl ⊢
    go_wp2_with fail
    go_ret
    rw [unhide HL]
    refine ⟨w.heap.size, k + 1, by rw [List.length_map, unhide Hk]; rfl, ⟨hlt, fun j hj => ?_⟩, B1⟩
    rw [List.length_map] at hj
    rw [unhide HCl j hj]
    simp

end Go.Proofs.YthdoakeocaegkaaDoor

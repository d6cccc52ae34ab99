/-
  The walks over cutField, readList, l1list. Own work.
-/
import Derived.Test.YtnahfogbemfngaaGreatDoorPB
import Derived.OwnWalk
namespace Go.Proofs.YtnahfogbemfngaaGreatDoor
open Go.RowKit
set_option linter.unusedVariables false

/-- the library's bound is laid -/
def MaxL (w : World) : Prop := ∃ m, w.cell? ⟨1, 0, none⟩ = some (.int .i64 m)

theorem MaxL.below {w w' : World} (h : MaxL w) (hb : Below w.heap.size w w') : MaxL w' := by
  obtain ⟨m, hm⟩ := h
  exact ⟨m, (hb.cell (p := ⟨1, 0, none⟩) (World.block_lt_of_cell? w _ hm)).trans hm⟩

/-- what cutField answers -/
def CutAns (t lb : ByteArray) (e : Ending) : Prop :=
  ∃ (a b : ByteArray) (o : Bool), e = .returned (.tuple #[.string a, .string b, .bool o]) ∧ cutF (toL lb) (toL t) = (toL a, toL b, o) ∧ a.size ≤ t.size ∧ b.size ≤ t.size

theorem cut_le (l : List UInt8) : (Lib.cut l [32]).1.length ≤ l.length ∧ (Lib.cut l [32]).2.1.length ≤ l.length := by
  unfold Lib.cut
  split
  · simp; omega
  · simp

set_option maxHeartbeats 800000 in
theorem cutField_any (t lb : ByteArray) (w : World) (ht : t.size ≤ 1048576) (hm : MaxL w) :
    Calls Tryz.prog 20 #[.string t, .string lb] w fun e w' => CutAns t lb e ∧ Below w.heap.size w w' := by
  cases hp : Lib.hasPrefix t.data.toList lb.data.toList
  · have Hp := hide hp
    clear hp
    go_enter Tryz.func20, Tryz.ntmps20
    go_wp2_with fail
    refine (Tryz.strings_CutPrefix t lb _).mono ?_
    rintro e w1 ⟨rfl, hw1⟩
    rw [unhide Hp, hw1]
    clear hw1
    go_wp2
    go_ret3
    refine ⟨⟨_, _, false, rfl, ?_, Nat.zero_le _, Nat.zero_le _⟩, Below.refl _ _⟩
    rw [cutF, if_neg (by rw [show (toL lb).isPrefixOf (toL t) = false from unhide Hp]; simp)]
    rfl
  · have Hp := hide hp
    clear hp
    have e0 : (⟨(Lib.trimPrefix t.data.toList lb.data.toList).toArray⟩ : ByteArray) = ofL (Lib.trimPrefix (toL t) (toL lb)) := rfl
    have Hr := hide (show Lib.trimPrefix (toL t) (toL lb) = (toL t).drop (toL lb).length by unfold Lib.trimPrefix; rw [if_pos (show Lib.hasPrefix (toL t) (toL lb) = true from unhide Hp)])
    have Hz := hide (trim_le (toL t) (toL lb))
    go_enter Tryz.func20, Tryz.ntmps20
    go_wp2_with fail
    refine (Tryz.strings_CutPrefix t lb _).mono ?_
    rintro e w1 ⟨rfl, hw1⟩
    rw [unhide Hp, hw1, e0]
    clear hw1 e0
    obtain ⟨m, hm'⟩ := hm
    have hsz : (ofL (Lib.trimPrefix (toL t) (toL lb))).size < 4294967281 := by
      have := unhide Hz
      rw [toL_size] at this
      have e : (ofL (Lib.trimPrefix (toL t) (toL lb))).size = (Lib.trimPrefix (toL t) (toL lb)).length := by simp [ofL, ByteArray.size]
      omega
    have Hc := hide (cut_le (Lib.trimPrefix (toL t) (toL lb)))
    generalize hx : ofL (Lib.trimPrefix (toL t) (toL lb)) = x at hsz ⊢
    have hx' : Lib.trimPrefix (toL t) (toL lb) = toL x := by rw [← hx, toL_ofL]
    rw [hx'] at Hc Hr Hz
    have Hx := hide hx'
    clear hx hx'
    go_wp2_with fail
    refine (Tryz.strings_Cut x _ m _ hsz hm').mono ?_
    rintro e w2 ⟨rfl, q, rfl⟩
    go_wp2
    go_ret3
    refine ⟨⟨_, _, _, rfl, ?_, ?_, ?_⟩, below_drewN (Below.refl _ _) q⟩
    · rw [cutF, if_pos (show (toL lb).isPrefixOf (toL t) = true from unhide Hp), ← unhide Hr]
      rfl
    · have h1 := unhide Hz
      have h2 := (unhide Hc).1
      rw [toL_size] at h1 h2
      have e : (ofL (Lib.cut (toL x) [32]).1).size = (Lib.cut (toL x) [32]).1.length := by simp [ofL, ByteArray.size]
      rw [toL_size] at h1
      exact Nat.le_trans (Nat.le_of_eq e) (by omega)
    · have h1 := unhide Hz
      have h2 := (unhide Hc).2
      rw [toL_size] at h1 h2
      have e : (ofL (Lib.cut (toL x) [32]).2.1).size = (Lib.cut (toL x) [32]).2.1.length := by simp [ofL, ByteArray.size]
      rw [toL_size] at h1
      exact Nat.le_trans (Nat.le_of_eq e) (by omega)

/-- what readList and l1list answer -/
def RlAns (w : World) (s : ByteArray) (e : Ending) (w' : World) : Prop :=
  ∃ x cx K o, e = .returned (.tuple #[.slice x K.length cx, .bool o]) ∧ w'.ownsRow w.heap.size 9 1 (.slice x K.length cx) K.length (K.map Value.string) ∧ Below w.heap.size w w' ∧ (o = true → LsOK (toL s) K) ∧ (o = false → ∀ K', ¬ LsOK (toL s) K')

theorem RlAns.empty {w : World} {s : ByteArray} (h : s.size = 0) : RlAns w s (.returned (.tuple #[.slice none 0 0, .bool true])) w :=
  ⟨none, 0, [], true, rfl, World.ownsRow_nil _ _ _ _, Below.refl _ _, fun _ => .inl ⟨List.eq_nil_of_length_eq_zero (by rw [toL_size]; exact h), rfl⟩, fun k => by cases k⟩

theorem ls_yes {s : ByteArray} {K : List ByteArray} {c : Int} (h0 : s.size ≠ 0) (h : IsMake ((splitC 44 (toL s)).map ofL) K c) (hc : c = 0) : LsOK (toL s) K := by
  subst hc
  exact .inr ⟨fun e => h0 (by rw [← toL_size, e]; rfl), h⟩

theorem ls_no {s : ByteArray} {K : List ByteArray} {c : Int} (h0 : s.size ≠ 0) (h : IsMake ((splitC 44 (toL s)).map ofL) K c) (hc : c ≠ 0) : ∀ K', ¬ LsOK (toL s) K' := by
  rintro K' (⟨e, _⟩ | ⟨_, h'⟩)
  · exact h0 (by rw [← toL_size, e]; rfl)
  · exact hc (h.unique h').2

theorem parts_sizes {s : ByteArray} (c : UInt8) (hs : s.size ≤ 1048576) : ∀ j, j < (splitC c (toL s)).length → (nth ((splitC c (toL s)).map ofL) j).size ≤ maxLen := fun j hj => by
  rw [nth_eq _ j (by simpa using hj), List.getElem_map]
  have := splitC_le (List.getElem_mem hj)
  have e : (ofL (splitC c (toL s))[j]).size = (splitC c (toL s))[j].length := by simp [ofL, ByteArray.size]
  rw [toL_size] at this
  rw [e]; unfold maxLen; omega

set_option maxHeartbeats 1600000 in
theorem l1list_any (s : ByteArray) (w : World) (hs : s.size ≤ 1048576) :
    Calls Tryz.prog 30 #[.string s] w fun e w' => RlAns w s e w' := by
  by_cases h0 : s.size = 0
  · have H := hide (RlAns.empty (w := w) h0)
    have he := empty_of_size h0
    subst he
    go_enter Tryz.func30, Tryz.ntmps30
    go_wp2
    go_ret2
    exact unhide H
  · have hne := nonempty_of_size h0
    go_enter Tryz.func30, Tryz.ntmps30
    go_wp2_with fail
    refine (l1split_any s 44 _ hs).mono ?_
    rintro e w1 ⟨x, cx, rfl, ho, hb⟩
    have hlen : (splitC 44 (toL s)).length = ((splitC 44 (toL s)).map ofL).length := (List.length_map _).symm
    have s1 := Strs.of_owns ho (parts_sizes 44 hs)
    have Hy := hide (fun (K : List ByteArray) (c : Int) => ls_yes (s := s) (K := K) (c := c) h0)
    have Hn := hide (fun (K : List ByteArray) (c : Int) => ls_no (s := s) (K := K) (c := c) h0)
    clear ho hlen
    go_wp2_with fail
    refine (sMakeSet_any _ _ _ _ _ s1).mono ?_
    rintro e w2 ⟨y, cy, K, c, rfl, ho2, hb2, hm⟩
    have B2 := hb.trans (hb2.mono hb.size)
    have O2 := owns_mono ho2 hb.size
    have Hm := hide hm
    clear hm ho2 hb2 s1
    go_wp2
    go_ret2
    exact ⟨y, cy, K, (c == 0), rfl, O2, B2, fun k => unhide Hy K c (unhide Hm) (beq_iff_eq.1 k), fun k => unhide Hn K c (unhide Hm) (beq_eq_false_iff_ne.1 k)⟩

/-- what Split lays -/
theorem split_parts (s sep : ByteArray) (c : UInt8) (h : toL sep = [c]) : Lib.splitB sep 0 (Lib.countB s sep) s = (splitC c (toL s)).map ofL ∧ Lib.countB s sep + 1 = (splitC c (toL s)).length := by
  obtain ⟨e1, e2⟩ := split_eq c (toL s)
  have h' : sep.data.toList = [c] := h
  have e3 := Lib.splitB_data sep 0 (Lib.countB s sep) s
  rw [h', show Lib.countB s sep = Lib.count (toL s) [c] by show Lib.count s.data.toList sep.data.toList = _; rw [h']; rfl] at e3
  have e4 := e3.trans e1
  rw [show Lib.countB s sep = Lib.count (toL s) [c] by show Lib.count s.data.toList sep.data.toList = _; rw [h']; rfl]
  refine ⟨?_, e2.symm⟩
  rw [← e4, List.map_map]
  conv => lhs; rw [← List.map_id (Lib.splitB sep 0 (Lib.count (toL s) [c]) s)]
  exact List.map_congr_left fun x _ => (ofL_toL x).symm

set_option maxHeartbeats 1600000 in
theorem readList_any (s : ByteArray) (w : World) (hs : s.size ≤ 1048576) (hm : MaxL w) :
    Calls Tryz.prog 23 #[.string s] w fun e w' => RlAns w s e w' := by
  by_cases h0 : s.size = 0
  · have H := hide (RlAns.empty (w := w) h0)
    have he := empty_of_size h0
    subst he
    go_enter Tryz.func23, Tryz.ntmps23
    go_wp2
    go_ret2
    exact unhide H
  · have hne := nonempty_of_size h0
    obtain ⟨m, hm'⟩ := hm
    obtain ⟨q1, q2⟩ := split_parts s ⟨#[44]⟩ 44 rfl
    have hz : (splitC 44 (toL s)).length ≤ s.size + 1 := by have := splitC_len 44 (toL s); rw [toL_size] at this; exact this
    have Hy := hide (fun (K : List ByteArray) (c : Int) => ls_yes (s := s) (K := K) (c := c) h0)
    have Hn := hide (fun (K : List ByteArray) (c : Int) => ls_no (s := s) (K := K) (c := c) h0)
    have hs2 := parts_sizes (s := s) 44 hs
    rw [show (splitC 44 (toL s)).length = ((splitC 44 (toL s)).map ofL).length from (List.length_map _).symm] at q2 hs2 hz
    generalize (splitC 44 (toL s)).map ofL = PP at q1 q2 hs2 hz Hy Hn
    have Hs := hide hs2
    clear hs2
    go_enter Tryz.func23, Tryz.ntmps23
    go_wp2_with fail
    refine (Tryz.strings_Split s _ m _ (by omega) hm' (by decide)).mono ?_
    rintro e w1 ⟨rfl, hw1⟩
    rw [q1] at hw1
    rw [q2, hw1]
    clear hw1 q1 q2
    have ho : (w.alloc (.cells (PP.map Value.string).toArray 9)).ownsRow w.heap.size 9 1 (.slice (some ⟨w.heap.size, 0, none⟩) PP.length PP.length) PP.length (PP.map Value.string) :=
      ⟨by simp, .inr ⟨w.heap.size, _, _, rfl, Nat.le_refl _, heap_alloc_new w _, Nat.le_refl _, by unfold maxLen; omega, by simp, by rw [Nat.mul_one]; exact List.take_of_length_le (by simp)⟩⟩
    have hb : Below w.heap.size w (w.alloc (.cells (PP.map Value.string).toArray 9)) := (Below.refl _ _).alloc (Nat.le_refl _) _
    have s1 := Strs.of_owns ho (unhide Hs)
    clear ho
    go_wp2_with fail
    refine (iMakeSet_any _ _ _ _ _ _ s1).mono ?_
    rintro e w2 ⟨y, cy, K, c, rfl, ho2, hb2, hm⟩
    have B2 := hb.trans (hb2.mono hb.size)
    have O2 := owns_mono ho2 hb.size
    have Hm := hide hm
    clear hm ho2 hb2 s1
    go_wp2
    go_ret2
    exact ⟨y, cy, K, (c == 0), rfl, O2, B2, fun k => unhide Hy K c (unhide Hm) (beq_iff_eq.1 k), fun k => unhide Hn K c (unhide Hm) (beq_eq_false_iff_ne.1 k)⟩

end Go.Proofs.YtnahfogbemfngaaGreatDoor

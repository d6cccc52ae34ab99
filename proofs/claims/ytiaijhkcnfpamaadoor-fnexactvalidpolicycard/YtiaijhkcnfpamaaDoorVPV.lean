/-
  The law's copy of a policy. Own work.
-/
import Derived.Test.YtiaijhkcnfpamaaDoorVPU
import Derived.Test.YtiaijhkcnfpamaaDoorVPL
import Derived.Test.YtiaijhkcnfpamaaDoorMem
namespace Go.Proofs.YtiaijhkcnfpamaaDoor
open Go.RowKit
set_option linter.unusedVariables false

theorem half_int (L : List Int) (n k : Nat) (hn : n = L.length) (hk : k < n) : (((L.take k).map (Value.int .i64)) ++ List.replicate (n - k) (Value.int .i64 0)).set k (.int .i64 (L[k]'(by omega))) = ((L.take (k + 1)).map (Value.int .i64)) ++ List.replicate (n - (k + 1)) (Value.int .i64 0) := by
  have h1 : ((L.take k).map (Value.int .i64)).length = k := by rw [List.length_map, List.length_take]; omega
  rw [List.set_append_right _ _ (by omega), h1, Nat.sub_self, show n - k = (n - (k + 1)) + 1 by omega, List.replicate_succ, List.set_cons_zero, List.take_succ_eq_append_getElem (by omega), List.map_append, List.append_assoc]
  rfl

theorem half_int_at (L : List Int) (n k : Nat) (hn : n = L.length) (hk : k < n) : (((L.take k).map (Value.int .i64)) ++ List.replicate (n - k) (Value.int .i64 0))[k]? = some (.int .i64 0) := by
  have h1 : ((L.take k).map (Value.int .i64)).length = k := by rw [List.length_map, List.length_take]; omega
  rw [List.getElem?_append_right (by omega), h1, Nat.sub_self, List.getElem?_replicate, if_pos (by omega)]

set_option maxHeartbeats 800000 in
theorem toIntS_any (a : Option Addr) (n c : Nat) (L : List Int) (w : World) (h : IntsR w a n c L) (hsm : n ≤ 1048576) :
    Calls Tryd.prog 45 #[.slice a n c] w fun e w' => e = .returned (.slice (some ⟨w.heap.size, 0, none⟩) n n) ∧ Below w.heap.size w w' ∧ w'.ownsRow w.heap.size 3 1 (.slice (some ⟨w.heap.size, 0, none⟩) n n) n (intsV L) := by
  obtain ⟨i, hi, hz0, hz1, hz2⟩ := info_parts infoI
  have Hl := hide h.len
  go_enter Tryd.func45, Tryd.ntmps45
  go_wp2_with (at_make; refine wpList_make_full _ rfl _ _ 46 rfl w.heap.size 3 i (.int .i64 0) 1 Tryd.underlying46 hi hz0 hz1 _ _ _ _ n rfl rfl rfl rfl ?b2 ?b3 ?b4 ?_)
  case b2 => rw [hz2]; omega
  case b3 => unfold maxLen; omega
  case b4 => exact Nat.le_refl _
  intro w1 hown hgrow
  have hb1 : Below w.heap.size w w1 := (Below.refl _ _).grown hgrow (Nat.le_refl _) (fun k hk => by cases hk)
  clear hgrow
  have hown1 : w1.ownsRow w.heap.size 3 1 (.slice (some ⟨w.heap.size, 0, none⟩) n n) n (((L.take 0).map (Value.int .i64)) ++ List.replicate (n - 0) (Value.int .i64 0)) := by
    simp only [List.take_zero, List.map_nil, List.nil_append, Nat.sub_zero]
    rw [← toList_madeCells_one, ← Nat.mul_one n]
    simpa using hown
  clear hown
  go_wp2
  go_loopw [4] (fun i wr => ∃ k : Nat, k ≤ n ∧ i = .int .i64 k ∧ wr.ownsRow w.heap.size 3 1 (.slice (some ⟨w.heap.size, 0, none⟩) n n) n (((L.take k).map (Value.int .i64)) ++ List.replicate (n - k) (Value.int .i64 0)) ∧ Below w.heap.size w wr) (fun i _ => n - (intOf i).toNat)
  case atStart => exact ⟨0, Nat.zero_le _, rfl, hown1, hb1⟩
  case round =>
    obtain ⟨k, hk, rfl, hown, hb⟩ := hrel
    clear hown1 hb1
    by_cases hlt : k < n
    · have hkl : k < L.length := by rw [unhide Hl]; exact hlt
      obtain ⟨b, off, rfl, _, hc⟩ := (h.below hb (Nat.le_refl _)).cells k hkl
      have hfz := hown.frozenAt k
      have hck := (hown.cellAt k (by omega)).trans (half_int_at L n k (unhide Hl).symm hlt)
      have Hst := hide (hown.stored k (.int .i64 L[k])).1
      have HH := hide (half_int L n k (unhide Hl).symm hlt)
      have Hlt := hide hlt
      clear hown
      generalize L[k] = x at hc Hst HH
      go_wp2
      go_roundw
      case rel => exact ⟨k + 1, unhide Hlt, by go_num, by rw [← unhide HH]; exact unhide Hst, hb.setCell (Nat.le_refl _) _⟩
      case measure => have := unhide Hlt; simp [intOf]; omega
    · have e : k = n := by omega
      subst e
      go_wp2
      go_ret
      refine ⟨rfl, hb, ?_⟩
      rw [List.take_of_length_le (by rw [unhide Hl]; exact Nat.le_refl _), Nat.sub_self] at hown
      simpa [intsV] using hown

theorem Ints.setFar {w : World} {a : Option Addr} {n c : Nat} {L : List Int} (h : Ints w a n c L) {p : Addr} (hp : ∀ x, a = some x → p.block ≠ x.block) (u : Value) : Ints (w.setCell p u) a n c L :=
  ⟨h.len, h.small, fun j hj => by
    obtain ⟨b, off, ha, hlt, hc⟩ := h.cells j hj
    refine ⟨b, off, ha, by simpa using hlt, ?_⟩
    rw [← hc]
    exact World.cell?_of_block (heap_setCell_other w p b u (fun e => hp _ ha e.symm))⟩

set_option maxRecDepth 100000 in
set_option maxHeartbeats 1600000 in
theorem toNode_any (x : Nd) (an : Option Addr) (nn cn : Nat) (ak : Option Addr) (nk ck : Nat) (w : World) (h1 : Strs w an nn cn x.names) (h2 : IntsR w ak nk ck x.kids) (k1 : nn ≤ 1048576) (k2 : nk ≤ 1048576) :
    Calls Tryd.prog 24 #[.agg #[.int .i64 x.op, .int .i64 x.num, .string x.text, .slice an nn cn, .slice ak nk ck]] w fun e w' =>
      ∃ x1 x2, e = .returned (.agg #[.int .i64 x.op, .int .i64 x.num, .string x.text, .slice (some x1) nn nn, .slice (some x2) nk nk]) ∧ Strs w' (some x1) nn nn x.names ∧ Ints w' (some x2) nk nk x.kids ∧ w.heap.size ≤ x1.block ∧ w.heap.size ≤ x2.block ∧ Below w.heap.size w w' := by
  go_enter Tryd.func24, Tryd.ntmps24
  go_wp2_with fail
  have B0 := ((((Below.refl w.heap.size w).alloc (Nat.le_refl _) (.cells #[.int .i64 x.op, .int .i64 x.num, .string x.text, .slice an nn cn, .slice ak nk ck] 48)).alloc (by simp) (.cells #[.int .i64 0, .int .i64 0, .string ⟨#[]⟩, .slice none 0 0, .slice none 0 0] 52)).alloc (by simp; omega) (.cells #[.int .i64 x.op, .int .i64 x.num, .string x.text, .slice none 0 0, .slice none 0 0] 52))
  have R0 := ((Row.new w #[.int .i64 x.op, .int .i64 x.num, .string x.text, .slice an nn cn, .slice ak nk ck] 48).alloc (.cells #[.int .i64 0, .int .i64 0, .string ⟨#[]⟩, .slice none 0 0, .slice none 0 0] 52)).alloc (.cells #[.int .i64 x.op, .int .i64 x.num, .string x.text, .slice none 0 0, .slice none 0 0] 52)
  have R1 := (Row.new (w.alloc (.cells #[.int .i64 x.op, .int .i64 x.num, .string x.text, .slice an nn cn, .slice ak nk ck] 48)) #[.int .i64 0, .int .i64 0, .string ⟨#[]⟩, .slice none 0 0, .slice none 0 0] 52).alloc (.cells #[.int .i64 x.op, .int .i64 x.num, .string x.text, .slice none 0 0, .slice none 0 0] 52)
  have R2 := Row.new ((w.alloc (.cells #[.int .i64 x.op, .int .i64 x.num, .string x.text, .slice an nn cn, .slice ak nk ck] 48)).alloc (.cells #[.int .i64 0, .int .i64 0, .string ⟨#[]⟩, .slice none 0 0, .slice none 0 0] 52)) #[.int .i64 x.op, .int .i64 x.num, .string x.text, .slice none 0 0, .slice none 0 0] 52
  simp only [World.size_alloc] at R1 R2
  have Z := R2.lt
  refine (toStringS_any _ _ _ _ _ (h1.below B0 (Nat.le_refl _)) k1).mono ?_
  rintro e w1 ⟨rfl, hb1, ho1⟩
  have B1 := B0.trans (hb1.mono (by simp; omega))
  have r0 := R0.after hb1 (Nat.le_refl _)
  have r1 := R1.after hb1 (Nat.le_refl _)
  have r2 := R2.after hb1 (Nat.le_refl _)
  have z1 := hb1.size
  have s1' := Strs.of_owns ho1 h1.sizes
  have l1 := (ho1.lt _ rfl).2
  simp only [World.size_alloc] at z1 s1' l1
  clear B0 R0 R1 R2 ho1 hb1 Z
  have q0 := r0.cell 4
  have q1 := r2.cell 3
  have q2 := r2.frozen 3
  simp only [List.getElem?_toArray, List.getElem?_cons_succ, List.getElem?_cons_zero] at q0 q1
  go_wp2_with fail
  have B2 := B1.setCell (p := ⟨w.heap.size + 1 + 1, 3, none⟩) (by show w.heap.size ≤ w.heap.size + 1 + 1; omega) (.slice (some ⟨w.heap.size + 1 + 1 + 1, 0, none⟩) nn nn)
  refine (toIntS_any _ _ _ _ _ (h2.below B2 (Nat.le_refl _)) k2).mono ?_
  rintro e w2 ⟨rfl, hb2, ho2⟩
  have r1' := (r1.setFar (p := ⟨w.heap.size + 1 + 1, 3, none⟩) (by show w.heap.size + 1 ≠ w.heap.size + 1 + 1; omega) (.slice (some ⟨w.heap.size + 1 + 1 + 1, 0, none⟩) nn nn)).after hb2 (Nat.le_refl _)
  have r2' := (r2.set 3 (.slice (some ⟨w.heap.size + 1 + 1 + 1, 0, none⟩) nn nn)).after hb2 (Nat.le_refl _)
  have s1'' := (s1'.setFar (p := ⟨w.heap.size + 1 + 1, 3, none⟩) (fun x hx => by cases hx; show w.heap.size + 1 + 1 ≠ w.heap.size + 1 + 1 + 1; omega) (.slice (some ⟨w.heap.size + 1 + 1 + 1, 0, none⟩) nn nn)).below hb2 (Nat.le_refl _)
  have s2' := ints_of_row ho2 k2
  have B3 := B2.trans (hb2.mono (by simp; omega))
  have z2 := hb2.size
  have l2 := (ho2.lt _ rfl).2
  simp only [World.size_setCell] at z2 s2' l2
  clear r0 r1 r2 s1' q0 q1 q2 B1 B2 hb2 ho2
  have f1 := fun j => r1'.frozen j
  have f2 := fun j => r2'.frozen j
  have p0 := r1'.cell 0
  have p1 := r1'.cell 1
  have p2 := r1'.cell 2
  have p3 := r1'.cell 3
  have p4 := r1'.cell 4
  have q0 := r2'.cell 0
  have q1 := r2'.cell 1
  have q2 := r2'.cell 2
  have q3 := r2'.cell 3
  have q4 := r2'.cell 4
  simp at p0 p1 p2 p3 p4 q0 q1 q2 q3 q4
  go_wp2_with fail
  refine bodyPost_ret (v := .agg #[.int .i64 x.op, .int .i64 x.num, .string x.text, .slice (some ⟨w.heap.size + 1 + 1 + 1, 0, none⟩) nn nn, .slice (some ⟨w1.heap.size, 0, none⟩) nk nk]) (by simp [results, Tryd.results24, go_sem, p0, p1, p2, p3, p4]) rfl ⟨_, _, rfl, ?_, ?_, by show w.heap.size ≤ w.heap.size + 1 + 1 + 1; omega, by show w.heap.size ≤ w1.heap.size; omega, ?_⟩
  · clear p0 p1 p2 p3 p4 q0 q1 q2 q3 q4 f1 f2 r1' r2'
    refine Strs.setFar (Strs.setFar (Strs.setFar (Strs.setFar (Strs.setFar (Strs.setFar s1'' ?_ _) ?_ _) ?_ _) ?_ _) ?_ _) ?_ _
    all_goals (intro x hx; cases hx; dsimp only; omega)
  · clear p0 p1 p2 p3 p4 q0 q1 q2 q3 q4 f1 f2 r1' r2'
    refine Ints.setFar (Ints.setFar (Ints.setFar (Ints.setFar (Ints.setFar (Ints.setFar s2' ?_ _) ?_ _) ?_ _) ?_ _) ?_ _) ?_ _
    all_goals (intro x hx; cases hx; dsimp only; omega)
  · clear p0 p1 p2 p3 p4 q0 q1 q2 q3 q4 f1 f2 r1' r2'
    refine Below.setCell (Below.setCell (Below.setCell (Below.setCell (Below.setCell (Below.setCell B3 ?_ _) ?_ _) ?_ _) ?_ _) ?_ _) ?_ _
    all_goals (dsimp only; omega)

end Go.Proofs.YtiaijhkcnfpamaaDoor

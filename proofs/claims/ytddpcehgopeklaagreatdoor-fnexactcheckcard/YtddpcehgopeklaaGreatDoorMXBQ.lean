/-
  VPV, VPW, VPT, VPS. Own work.
-/
import Derived.Test.YtddpcehgopeklaaGreatDoorMXAI
import Derived.Test.YtddpcehgopeklaaGreatDoorVPL
import Derived.Test.YtddpcehgopeklaaGreatDoorMXAG
import Derived.Test.YtddpcehgopeklaaGreatDoorMXAV
import Derived.Test.YtddpcehgopeklaaGreatDoorMXBK
namespace Go.Proofs.YtddpcehgopeklaaGreatDoor
open Go.RowKit
set_option linter.unusedVariables false

theorem half_int (L : List Int) (n k : Nat) (hn : n = L.length) (hk : k < n) : (((L.take k).map (Value.int .i64)) ++ List.replicate (n - k) (Value.int .i64 0)).set k (.int .i64 (L[k]'(by omega))) = ((L.take (k + 1)).map (Value.int .i64)) ++ List.replicate (n - (k + 1)) (Value.int .i64 0) := by
  have h1 : ((L.take k).map (Value.int .i64)).length = k := by rw [List.length_map, List.length_take]; omega
  rw [List.set_append_right _ _ (by omega), h1, Nat.sub_self, show n - k = (n - (k + 1)) + 1 by omega, List.replicate_succ, List.set_cons_zero, List.take_succ_eq_append_getElem (by omega), List.map_append, List.append_assoc]
  rfl

theorem half_int_at (L : List Int) (n k : Nat) (hn : n = L.length) (hk : k < n) : (((L.take k).map (Value.int .i64)) ++ List.replicate (n - k) (Value.int .i64 0))[k]? = some (.int .i64 0) := by
  have h1 : ((L.take k).map (Value.int .i64)).length = k := by rw [List.length_map, List.length_take]; omega
  rw [List.getElem?_append_right (by omega), h1, Nat.sub_self, List.getElem?_replicate, if_pos (by omega)]

set_option maxHeartbeats 800000 in
theorem toIntS_any (a : Option Addr) (n c : Nat) (L : List Int) (w : World) (h : IntsR w a n c L) (hsm : n ≤ 1048576) :
    Calls Tryz.prog 62 #[.slice a n c] w fun e w' => e = .returned (.slice (some ⟨w.heap.size, 0, none⟩) n n) ∧ Below w.heap.size w w' ∧ w'.ownsRow w.heap.size 3 1 (.slice (some ⟨w.heap.size, 0, none⟩) n n) n (intsV L) := by
  obtain ⟨i, hi, hz0, hz1, hz2⟩ := info_parts infoI
  have Hl := hide h.len
  go_enter Tryz.func62, Tryz.ntmps62
  go_wp2_with (at_make; refine wpList_make_full _ rfl _ _ 29 rfl w.heap.size 3 i (.int .i64 0) 1 Tryz.underlying29 hi hz0 hz1 _ _ _ _ n rfl rfl rfl rfl ?b2 ?b3 ?b4 ?_)
  case b2 => rw [hz2]; omega
  case b3 => unfold maxLen; omega
  case b4 => exact Nat.le_refl _
  intro w1 hown hgrow
  have hb1 : Below w.heap.size w w1 := (Below.refl _ _).grown hgrow (Nat.le_refl _) (fun k hk => by cases hk)
  clear hgrow
  have hown1 : w1.ownsRow w.heap.size 3 1 (.slice (some ⟨w.heap.size, 0, none⟩) n n) n (((L.take 0).map (Value.int .i64)) ++ List.replicate (n - 0) (Value.int .i64 0)) := by
    simp only [List.take_zero, List.map_nil, List.nil_append, Nat.sub_zero]
    rw [← toList_madeCells_one, ← Nat.mul_one n]
    simpa using hown
  clear hown
  go_wp2
  go_loopw [4] (fun i wr => ∃ k : Nat, k ≤ n ∧ i = .int .i64 k ∧ wr.ownsRow w.heap.size 3 1 (.slice (some ⟨w.heap.size, 0, none⟩) n n) n (((L.take k).map (Value.int .i64)) ++ List.replicate (n - k) (Value.int .i64 0)) ∧ Below w.heap.size w wr) (fun i _ => n - (intOf i).toNat)
  case atStart => exact ⟨0, Nat.zero_le _, rfl, hown1, hb1⟩
  case round =>
    obtain ⟨k, hk, rfl, hown, hb⟩ := hrel
    clear hown1 hb1
    by_cases hlt : k < n
    · have hkl : k < L.length := by rw [unhide Hl]; exact hlt
      obtain ⟨b, off, rfl, _, hc⟩ := (h.below hb (Nat.le_refl _)).cells k hkl
      have hfz := hown.frozenAt k
      have hck := (hown.cellAt k (by omega)).trans (half_int_at L n k (unhide Hl).symm hlt)
      have Hst := hide (hown.stored k (.int .i64 L[k])).1
      have HH := hide (half_int L n k (unhide Hl).symm hlt)
      have Hlt := hide hlt
      clear hown
      generalize L[k] = x at hc Hst HH
      go_wp2
      go_roundw
      case rel => exact ⟨k + 1, unhide Hlt, by go_num, by rw [← unhide HH]; exact unhide Hst, hb.setCell (Nat.le_refl _) _⟩
      case measure => have := unhide Hlt; simp [intOf]; omega
    · have e : k = n := by omega
      subst e
      go_wp2
      go_ret
      refine ⟨rfl, hb, ?_⟩
      rw [List.take_of_length_le (by rw [unhide Hl]; exact Nat.le_refl _), Nat.sub_self] at hown
      simpa [intsV] using hown

theorem Ints.setFar {w : World} {a : Option Addr} {n c : Nat} {L : List Int} (h : Ints w a n c L) {p : Addr} (hp : ∀ x, a = some x → p.block ≠ x.block) (u : Value) : Ints (w.setCell p u) a n c L :=
  ⟨h.len, h.small, fun j hj => by
    obtain ⟨b, off, ha, hlt, hc⟩ := h.cells j hj
    refine ⟨b, off, ha, by simpa using hlt, ?_⟩
    rw [← hc]
    exact World.cell?_of_block (heap_setCell_other w p b u (fun e => hp _ ha e.symm))⟩

set_option maxRecDepth 100000 in
set_option maxHeartbeats 1600000 in
theorem toNode_any (x : Nd) (an : Option Addr) (nn cn : Nat) (ak : Option Addr) (nk ck : Nat) (w : World) (h1 : Strs w an nn cn x.names) (h2 : IntsR w ak nk ck x.kids) (k1 : nn ≤ 1048576) (k2 : nk ≤ 1048576) :
    Calls Tryz.prog 38 #[.agg #[.int .i64 x.op, .int .i64 x.num, .string x.text, .slice an nn cn, .slice ak nk ck]] w fun e w' =>
      ∃ x1 x2, e = .returned (.agg #[.int .i64 x.op, .int .i64 x.num, .string x.text, .slice (some x1) nn nn, .slice (some x2) nk nk]) ∧ Strs w' (some x1) nn nn x.names ∧ Ints w' (some x2) nk nk x.kids ∧ Wd w' x1 nn 9 ∧ Wd w' x2 nk 3 ∧ w.heap.size ≤ x1.block ∧ w.heap.size ≤ x2.block ∧ Below w.heap.size w w' := by
  go_enter Tryz.func38, Tryz.ntmps38
  go_wp2_with fail
  have B0 := ((((Below.refl w.heap.size w).alloc (Nat.le_refl _) (.cells #[.int .i64 x.op, .int .i64 x.num, .string x.text, .slice an nn cn, .slice ak nk ck] 70)).alloc (by simp) (.cells #[.int .i64 0, .int .i64 0, .string ⟨#[]⟩, .slice none 0 0, .slice none 0 0] 53)).alloc (by simp; omega) (.cells #[.int .i64 x.op, .int .i64 x.num, .string x.text, .slice none 0 0, .slice none 0 0] 53))
  have R0 := ((Row.new w #[.int .i64 x.op, .int .i64 x.num, .string x.text, .slice an nn cn, .slice ak nk ck] 70).alloc (.cells #[.int .i64 0, .int .i64 0, .string ⟨#[]⟩, .slice none 0 0, .slice none 0 0] 53)).alloc (.cells #[.int .i64 x.op, .int .i64 x.num, .string x.text, .slice none 0 0, .slice none 0 0] 53)
  have R1 := (Row.new (w.alloc (.cells #[.int .i64 x.op, .int .i64 x.num, .string x.text, .slice an nn cn, .slice ak nk ck] 70)) #[.int .i64 0, .int .i64 0, .string ⟨#[]⟩, .slice none 0 0, .slice none 0 0] 53).alloc (.cells #[.int .i64 x.op, .int .i64 x.num, .string x.text, .slice none 0 0, .slice none 0 0] 53)
  have R2 := Row.new ((w.alloc (.cells #[.int .i64 x.op, .int .i64 x.num, .string x.text, .slice an nn cn, .slice ak nk ck] 70)).alloc (.cells #[.int .i64 0, .int .i64 0, .string ⟨#[]⟩, .slice none 0 0, .slice none 0 0] 53)) #[.int .i64 x.op, .int .i64 x.num, .string x.text, .slice none 0 0, .slice none 0 0] 53
  simp only [World.size_alloc] at R1 R2
  have Z := R2.lt
  refine (toStringS_any _ _ _ _ _ (h1.below B0 (Nat.le_refl _)) k1).mono ?_
  rintro e w1 ⟨rfl, hb1, ho1⟩
  have B1 := B0.trans (hb1.mono (by simp; omega))
  have r0 := R0.after hb1 (Nat.le_refl _)
  have r1 := R1.after hb1 (Nat.le_refl _)
  have r2 := R2.after hb1 (Nat.le_refl _)
  have z1 := hb1.size
  have s1' := Strs.of_owns ho1 h1.sizes
  have y1 := Wd.of_owns ho1
  have l1 := (ho1.lt _ rfl).2
  simp only [World.size_alloc] at z1 s1' l1 y1
  clear B0 R0 R1 R2 ho1 hb1 Z
  have q0 := r0.cell 4
  have q1 := r2.cell 3
  have q2 := r2.frozen 3
  simp only [List.getElem?_toArray, List.getElem?_cons_succ, List.getElem?_cons_zero] at q0 q1
  go_wp2_with fail
  have B2 := B1.setCell (p := ⟨w.heap.size + 1 + 1, 3, none⟩) (by show w.heap.size ≤ w.heap.size + 1 + 1; omega) (.slice (some ⟨w.heap.size + 1 + 1 + 1, 0, none⟩) nn nn)
  refine (toIntS_any _ _ _ _ _ (h2.below B2 (Nat.le_refl _)) k2).mono ?_
  rintro e w2 ⟨rfl, hb2, ho2⟩
  have r1' := (r1.setFar (p := ⟨w.heap.size + 1 + 1, 3, none⟩) (by show w.heap.size + 1 ≠ w.heap.size + 1 + 1; omega) (.slice (some ⟨w.heap.size + 1 + 1 + 1, 0, none⟩) nn nn)).after hb2 (Nat.le_refl _)
  have r2' := (r2.set 3 (.slice (some ⟨w.heap.size + 1 + 1 + 1, 0, none⟩) nn nn)).after hb2 (Nat.le_refl _)
  have s1'' := (s1'.setFar (p := ⟨w.heap.size + 1 + 1, 3, none⟩) (fun x hx => by cases hx; show w.heap.size + 1 + 1 ≠ w.heap.size + 1 + 1 + 1; omega) (.slice (some ⟨w.heap.size + 1 + 1 + 1, 0, none⟩) nn nn)).below hb2 (Nat.le_refl _)
  have s2' := ints_of_row ho2 k2
  have y1' := (y1.setFar (p := ⟨w.heap.size + 1 + 1, 3, none⟩) (by show w.heap.size + 1 + 1 ≠ w.heap.size + 1 + 1 + 1; omega) (.slice (some ⟨w.heap.size + 1 + 1 + 1, 0, none⟩) nn nn)).below hb2 (Nat.le_refl _)
  have y2 := Wd.of_owns ho2
  have B3 := B2.trans (hb2.mono (by simp; omega))
  have z2 := hb2.size
  have l2 := (ho2.lt _ rfl).2
  simp only [World.size_setCell] at z2 s2' l2 y2
  clear r0 r1 r2 s1' y1 q0 q1 q2 B1 B2 hb2 ho2
  have f1 := fun j => r1'.frozen j
  have f2 := fun j => r2'.frozen j
  have p0 := r1'.cell 0
  have p1 := r1'.cell 1
  have p2 := r1'.cell 2
  have p3 := r1'.cell 3
  have p4 := r1'.cell 4
  have q0 := r2'.cell 0
  have q1 := r2'.cell 1
  have q2 := r2'.cell 2
  have q3 := r2'.cell 3
  have q4 := r2'.cell 4
  simp at p0 p1 p2 p3 p4 q0 q1 q2 q3 q4
  go_wp2_with fail
  refine bodyPost_ret (v := .agg #[.int .i64 x.op, .int .i64 x.num, .string x.text, .slice (some ⟨w.heap.size + 1 + 1 + 1, 0, none⟩) nn nn, .slice (some ⟨w1.heap.size, 0, none⟩) nk nk]) (by simp [results, Tryz.results38, go_sem, p0, p1, p2, p3, p4]) rfl ⟨_, _, rfl, ?_, ?_, ?_, ?_, by show w.heap.size ≤ w.heap.size + 1 + 1 + 1; omega, by show w.heap.size ≤ w1.heap.size; omega, ?_⟩
  · clear p0 p1 p2 p3 p4 q0 q1 q2 q3 q4 f1 f2 r1' r2'
    refine Strs.setFar (Strs.setFar (Strs.setFar (Strs.setFar (Strs.setFar (Strs.setFar s1'' ?_ _) ?_ _) ?_ _) ?_ _) ?_ _) ?_ _
    all_goals (intro x hx; cases hx; dsimp only; omega)
  · clear p0 p1 p2 p3 p4 q0 q1 q2 q3 q4 f1 f2 r1' r2'
    refine Ints.setFar (Ints.setFar (Ints.setFar (Ints.setFar (Ints.setFar (Ints.setFar s2' ?_ _) ?_ _) ?_ _) ?_ _) ?_ _) ?_ _
    all_goals (intro x hx; cases hx; dsimp only; omega)
  · clear p0 p1 p2 p3 p4 q0 q1 q2 q3 q4 f1 f2 r1' r2'
    refine Wd.setFar (Wd.setFar (Wd.setFar (Wd.setFar (Wd.setFar (Wd.setFar y1' ?_ _) ?_ _) ?_ _) ?_ _) ?_ _) ?_ _
    all_goals (dsimp only; omega)
  · clear p0 p1 p2 p3 p4 q0 q1 q2 q3 q4 f1 f2 r1' r2'
    refine Wd.setFar (Wd.setFar (Wd.setFar (Wd.setFar (Wd.setFar (Wd.setFar y2 ?_ _) ?_ _) ?_ _) ?_ _) ?_ _) ?_ _
    all_goals (dsimp only; omega)
  · clear p0 p1 p2 p3 p4 q0 q1 q2 q3 q4 f1 f2 r1' r2'
    refine Below.setCell (Below.setCell (Below.setCell (Below.setCell (Below.setCell (Below.setCell B3 ?_ _) ?_ _) ?_ _) ?_ _) ?_ _) ?_ _
    all_goals (dsimp only; omega)

end Go.Proofs.YtddpcehgopeklaaGreatDoor

namespace Go.Proofs.YtddpcehgopeklaaGreatDoor
open Go.RowKit
set_option linter.unusedVariables false

theorem infoN : (Tryz.prog.info? 53).map (fun i => (i.zero, i.size, i.bytes)) = some (some (.agg #[.int .i64 0, .int .i64 0, .string ByteArray.empty, .slice none 0 0, .slice none 0 0]), 5, 80) := by kernel_rfl
theorem infoSt : (Tryz.prog.info? 77).map (fun i => (i.zero, i.size, i.bytes)) = some (some (.agg #[.int .i64 0, .string ByteArray.empty, .int .i64 0, .int .i64 0]), 4, 40) := by kernel_rfl

theorem row_of_owns {w : World} {base : Nat} {e : TypeId} {size g n c : Nat} {xs : List Value} (h : w.ownsRow base e size (.slice (some ⟨g, 0, none⟩) n c) n xs) : ∃ cur, Row w g cur e ∧ cur.size = c * size := by
  rcases h.2 with ⟨hv, _⟩ | ⟨g', cap, cur, hv, h1, h2, h3, h4, h5, h6⟩
  · cases hv
  · cases hv; exact ⟨cur, ⟨h2⟩, h5⟩

def put5A (cs : Array Value) (p : Nat) (v0 v1 v2 v3 v4 : Value) : Array Value := ((((cs.setIfInBounds p v0).setIfInBounds (p + 1) v1).setIfInBounds (p + 2) v2).setIfInBounds (p + 3) v3).setIfInBounds (p + 4) v4

theorem put5A_size (cs : Array Value) (p : Nat) (v0 v1 v2 v3 v4 : Value) : (put5A cs p v0 v1 v2 v3 v4).size = cs.size := by simp [put5A]

theorem put5A_at {cs : Array Value} {p : Nat} (h : p + 5 ≤ cs.size) (v0 v1 v2 v3 v4 : Value) : (put5A cs p v0 v1 v2 v3 v4)[p]? = some v0 ∧ (put5A cs p v0 v1 v2 v3 v4)[p + 1]? = some v1 ∧ (put5A cs p v0 v1 v2 v3 v4)[p + 2]? = some v2 ∧ (put5A cs p v0 v1 v2 v3 v4)[p + 3]? = some v3 ∧ (put5A cs p v0 v1 v2 v3 v4)[p + 4]? = some v4 := by
  unfold put5A
  refine ⟨?_, ?_, ?_, ?_, ?_⟩ <;> simp [Array.getElem?_setIfInBounds] <;> omega

theorem put5A_ne {cs : Array Value} {p q : Nat} (h : q < p) (v0 v1 v2 v3 v4 : Value) : (put5A cs p v0 v1 v2 v3 v4)[q]? = cs[q]? := by
  unfold put5A
  rw [Array.getElem?_setIfInBounds_ne (by omega), Array.getElem?_setIfInBounds_ne (by omega), Array.getElem?_setIfInBounds_ne (by omega), Array.getElem?_setIfInBounds_ne (by omega), Array.getElem?_setIfInBounds_ne (by omega)]

/-- five cells of a block, written over -/
def put5 (W : World) (b p : Nat) (v0 v1 v2 v3 v4 : Value) : World := ((((W.setCell ⟨b, p, none⟩ v0).setCell ⟨b, p + 1, none⟩ v1).setCell ⟨b, p + 2, none⟩ v2).setCell ⟨b, p + 3, none⟩ v3).setCell ⟨b, p + 4, none⟩ v4

theorem put5_row {W : World} {b p : Nat} {cs : Array Value} {t : TypeId} (h : Row W b cs t) (v0 v1 v2 v3 v4 : Value) : Row (put5 W b p v0 v1 v2 v3 v4) b (put5A cs p v0 v1 v2 v3 v4) t := ((((h.set p v0).set (p + 1) v1).set (p + 2) v2).set (p + 3) v3).set (p + 4) v4

theorem put5_below {B : Nat} {w W : World} {b p : Nat} (h : Below B w W) (hb : B ≤ b) (v0 v1 v2 v3 v4 : Value) : Below B w (put5 W b p v0 v1 v2 v3 v4) :=
  ((((h.setCell (p := ⟨b, p, none⟩) hb v0).setCell (p := ⟨b, p + 1, none⟩) hb v1).setCell (p := ⟨b, p + 2, none⟩) hb v2).setCell (p := ⟨b, p + 3, none⟩) hb v3).setCell (p := ⟨b, p + 4, none⟩) hb v4

theorem Strs.put5 {w : World} {x : Addr} {n c : Nat} {ss : List ByteArray} (h : Strs w (some x) n c ss) {b p : Nat} (hp : b ≠ x.block) (v0 v1 v2 v3 v4 : Value) : Strs (put5 w b p v0 v1 v2 v3 v4) (some x) n c ss :=
  ((((h.setFar (p := ⟨b, p, none⟩) (fun y e => by cases e; exact hp) v0).setFar (p := ⟨b, p + 1, none⟩) (fun y e => by cases e; exact hp) v1).setFar (p := ⟨b, p + 2, none⟩) (fun y e => by cases e; exact hp) v2).setFar (p := ⟨b, p + 3, none⟩) (fun y e => by cases e; exact hp) v3).setFar (p := ⟨b, p + 4, none⟩) (fun y e => by cases e; exact hp) v4

theorem Ints.put5 {w : World} {x : Addr} {n c : Nat} {ss : List Int} (h : Ints w (some x) n c ss) {b p : Nat} (hp : b ≠ x.block) (v0 v1 v2 v3 v4 : Value) : Ints (put5 w b p v0 v1 v2 v3 v4) (some x) n c ss :=
  ((((h.setFar (p := ⟨b, p, none⟩) (fun y e => by cases e; exact hp) v0).setFar (p := ⟨b, p + 1, none⟩) (fun y e => by cases e; exact hp) v1).setFar (p := ⟨b, p + 2, none⟩) (fun y e => by cases e; exact hp) v2).setFar (p := ⟨b, p + 3, none⟩) (fun y e => by cases e; exact hp) v3).setFar (p := ⟨b, p + 4, none⟩) (fun y e => by cases e; exact hp) v4

theorem Wd.put5 {w : World} {x : Addr} {n : Nat} {t : TypeId} (h : Wd w x n t) {b p : Nat} (hp : b ≠ x.block) (v0 v1 v2 v3 v4 : Value) : Wd (put5 w b p v0 v1 v2 v3 v4) x n t :=
  ((((h.setFar (p := ⟨b, p, none⟩) hp v0).setFar (p := ⟨b, p + 1, none⟩) hp v1).setFar (p := ⟨b, p + 2, none⟩) hp v2).setFar (p := ⟨b, p + 3, none⟩) hp v3).setFar (p := ⟨b, p + 4, none⟩) hp v4

/-- a node that lies in the row already, its parts behind it -/
def NdX (w : World) (g : Nat) (cs : Array Value) (o : Nat) (x : Nd) : Prop := ∃ x1 nn x2 nk, cs[o]? = some (.int .i64 x.op) ∧ cs[o + 1]? = some (.int .i64 x.num) ∧ cs[o + 2]? = some (.string x.text) ∧ cs[o + 3]? = some (.slice (some x1) nn nn) ∧ cs[o + 4]? = some (.slice (some x2) nk nk) ∧ Strs w (some x1) nn nn x.names ∧ Ints w (some x2) nk nk x.kids ∧ (Wd w x1 nn 9 ∧ Wd w x2 nk 3) ∧ g < x1.block ∧ g < x2.block

theorem NdX.step {w w2 : World} {g : Nat} {cs : Array Value} {o p : Nat} {x : Nd} (h : NdX w g cs o x) (hb : Below w.heap.size w w2) (hp : o + 5 ≤ p) (v0 v1 v2 v3 v4 : Value) : NdX (put5 w2 g p v0 v1 v2 v3 v4) g (put5A cs p v0 v1 v2 v3 v4) o x := by
  obtain ⟨x1, nn, x2, nk, c0, c1, c2, c3, c4, hN, hK, hW, g1, g2⟩ := h
  exact ⟨x1, nn, x2, nk, (put5A_ne (by omega) _ _ _ _ _).trans c0, (put5A_ne (by omega) _ _ _ _ _).trans c1, (put5A_ne (by omega) _ _ _ _ _).trans c2, (put5A_ne (by omega) _ _ _ _ _).trans c3, (put5A_ne (by omega) _ _ _ _ _).trans c4, (hN.below hb (Nat.le_refl _)).put5 (by omega) _ _ _ _ _, (hK.below hb (Nat.le_refl _)).put5 (by omega) _ _ _ _ _, ⟨(hW.1.below hb (Nat.le_refl _)).put5 (by omega) _ _ _ _ _, (hW.2.below hb (Nat.le_refl _)).put5 (by omega) _ _ _ _ _⟩, g1, g2⟩

theorem NdX.at {w : World} {g : Nat} {cs : Array Value} {o : Nat} {x : Nd} {t : TypeId} (h : NdX w g cs o x) (R : Row w g cs t) : NdAt w g o x := by
  obtain ⟨x1, nn, x2, nk, c0, c1, c2, c3, c4, hN, hK, _, _, _⟩ := h
  exact ⟨_, _, _, _, _, _, (R.cell _).trans c0, (R.cell _).trans c1, (R.cell _).trans c2, (R.cell _).trans c3, (R.cell _).trans c4, hN, hK⟩

/-- all nodes, in a row, their parts behind it -/
def Hi (w : World) (g : Nat) (N : List Nd) : Prop := ∃ cs, (Row w g cs 53 ∧ cs.size = N.length * 5) ∧ ∀ j, (hj : j < N.length) → NdX w g cs (j * 5) N[j]

theorem Hi.nds {w : World} {g n : Nat} {N : List Nd} (h : Hi w g N) (hl : N.length = n) (hsm : n ≤ 1048576) (hs : ∀ x ∈ N, smallNd x) : Nds w (some ⟨g, 0, none⟩) n n N := by
  obtain ⟨cs, ⟨R, _⟩, hx⟩ := h
  exact ⟨hl, hsm, fun x hx => (hs x hx).1, fun j hj => ⟨g, 0, rfl, R.lt, by rw [Nat.zero_add]; exact (hx j hj).at R⟩⟩

theorem Hi.below {w w' : World} {B g : Nat} {N : List Nd} (h : Hi w g N) (hb : Below B w w') (hB : w.heap.size ≤ B) : Hi w' g N := by
  obtain ⟨cs, ⟨R, z⟩, hx⟩ := h
  refine ⟨cs, ⟨R.after hb hB, z⟩, fun j hj => ?_⟩
  obtain ⟨x1, nn, x2, nk, c0, c1, c2, c3, c4, hN, hK, hW, g1, g2⟩ := hx j hj
  exact ⟨x1, nn, x2, nk, c0, c1, c2, c3, c4, hN.below hb hB, hK.below hb hB, ⟨hW.1.below hb hB, hW.2.below hb hB⟩, g1, g2⟩

theorem Hi.setLow {w : World} {g : Nat} {N : List Nd} (h : Hi w g N) {p : Addr} (hp : p.block < g) (u : Value) : Hi (w.setCell p u) g N := by
  obtain ⟨cs, ⟨R, z⟩, hx⟩ := h
  refine ⟨cs, ⟨R.setFar (by omega) u, z⟩, fun j hj => ?_⟩
  obtain ⟨x1, nn, x2, nk, c0, c1, c2, c3, c4, hN, hK, hW, g1, g2⟩ := hx j hj
  exact ⟨x1, nn, x2, nk, c0, c1, c2, c3, c4, hN.setFar (fun y e => by cases e; omega) u, hK.setFar (fun y e => by cases e; omega) u, ⟨hW.1.setFar (by omega) u, hW.2.setFar (by omega) u⟩, g1, g2⟩

theorem Sts.setFar {w : World} {g n c : Nat} {L : List St} (h : Sts w (some ⟨g, 0, none⟩) n c L) {p : Addr} (hp : p.block ≠ g) (u : Value) : Sts (w.setCell p u) (some ⟨g, 0, none⟩) n c L :=
  ⟨h.len, h.small, h.sizes, fun j hj => by
    obtain ⟨b, off, ha, hl, c0, c1, c2, c3⟩ := h.cells j hj
    cases ha
    have e : ∀ o, (w.setCell p u).cell? ⟨g, o, none⟩ = w.cell? ⟨g, o, none⟩ := fun o => World.cell?_of_block (heap_setCell_other w p g u (fun e => hp e.symm))
    exact ⟨g, 0, rfl, by simpa using hl, (e _).trans c0, (e _).trans c1, (e _).trans c2, (e _).trans c3⟩⟩

theorem some_at {cs : Array Value} {p : Nat} (h : p < cs.size) : ∃ u, cs[p]? = some u := ⟨_, Array.getElem?_eq_getElem h⟩

set_option maxRecDepth 100000 in
set_option maxHeartbeats 1600000 in
theorem toNodeS_any (a : Option Addr) (n c : Nat) (N : List Nd) (w : World) (h : NdsR w a n c N) (hsm : n ≤ 1048576) (hs : ∀ x ∈ N, smallNd x) :
    Calls Tryz.prog 21 #[.slice a n c] w fun e w' => e = .returned (.slice (some ⟨w.heap.size, 0, none⟩) n n) ∧ Below w.heap.size w w' ∧ Hi w' w.heap.size N := by
  obtain ⟨i, hi, hz0, hz1, hz2⟩ := info_parts infoN
  have Hl := hide h.len
  go_enter Tryz.func21, Tryz.ntmps21
  go_wp2_with (at_make; refine wpList_make_full _ rfl _ _ 27 rfl w.heap.size 53 i (.agg #[.int .i64 0, .int .i64 0, .string ByteArray.empty, .slice none 0 0, .slice none 0 0]) 5 Tryz.underlying27 hi hz0 hz1 _ _ _ _ n rfl rfl rfl rfl ?b2 ?b3 ?b4 ?_)
  case b2 => rw [hz2]; omega
  case b3 => unfold maxLen; omega
  case b4 => exact Nat.le_refl _
  intro w1 hown hgrow
  have hb1 : Below w.heap.size w w1 := (Below.refl _ _).grown hgrow (Nat.le_refl _) (fun k hk => by cases hk)
  clear hgrow
  obtain ⟨cs1, R1, hz⟩ := row_of_owns hown
  have Hs := hide hs
  clear hown hs
  go_wp2_with fail
  go_loopw [4] (fun i wr => ∃ (k : Nat) (cs : Array Value), k ≤ n ∧ i = .int .i64 k ∧ Row wr w.heap.size cs 53 ∧ cs.size = n * 5 ∧ Below w.heap.size w wr ∧ Hid (∀ j, (hj : j < N.length) → j < k → NdX wr w.heap.size cs (j * 5) N[j])) (fun i _ => n - (intOf i).toNat)
  case atStart => exact ⟨0, cs1, Nat.zero_le _, rfl, R1, hz, hb1, hide (fun j _ h => absurd h (by omega))⟩
  case round =>
    obtain ⟨k, cs, hk, rfl, R2, hz2, B2, Ha⟩ := hrel
    clear R1 hb1
    by_cases hlt : k < n
    · have ilt : (k : Int) < (n : Int) := by omega
      have hkl : k < N.length := by rw [unhide Hl]; exact hlt
      have hsx := unhide Hs N[k] (List.getElem_mem hkl)
      obtain ⟨b, off, rfl, hbl, an, nn, cn, ak, nk, ck, c0, c1, c2, c3, c4, hN, hK⟩ := (h.below B2 (Nat.le_refl _)).cells k hkl
      have hgl := R2.lt
      have k1 : nn ≤ 1048576 := by rw [hN.len]; exact hsx.2.1
      have k2 : nk ≤ 1048576 := by rw [← hK.len]; exact hsx.2.2.2
      have HY := hide (fun (w2 : World) (hb2 : Below wr.heap.size wr w2) (v0 v1 v2 v3 v4 : Value) (e : NdX (put5 w2 w.heap.size (k * 5) v0 v1 v2 v3 v4) w.heap.size (put5A cs (k * 5) v0 v1 v2 v3 v4) (k * 5) N[k]) => show ∀ j, (hj : j < N.length) → j < k + 1 → NdX (put5 w2 w.heap.size (k * 5) v0 v1 v2 v3 v4) w.heap.size (put5A cs (k * 5) v0 v1 v2 v3 v4) (j * 5) N[j] from fun j hj h' => by
        by_cases ej : j = k
        · subst ej; exact e
        · exact (unhide Ha j hj (by omega)).step hb2 (by omega) _ _ _ _ _)
      have Hlt := hide hlt
      have Hh := hide h
      clear Ha h hsx
      generalize N[k] = x at c0 c1 c2 c3 c4 hN hK HY
      obtain ⟨u0, e0⟩ := some_at (cs := cs) (p := k * 5) (by omega)
      obtain ⟨u1, e1⟩ := some_at (cs := cs) (p := k * 5 + 1) (by omega)
      obtain ⟨u2, e2⟩ := some_at (cs := cs) (p := k * 5 + 2) (by omega)
      obtain ⟨u3, e3⟩ := some_at (cs := cs) (p := k * 5 + 3) (by omega)
      obtain ⟨u4, e4⟩ := some_at (cs := cs) (p := k * 5 + 4) (by omega)
      have HE := hide (And.intro e0 (And.intro e1 (And.intro e2 (And.intro e3 e4))))
      clear e0 e1 e2 e3 e4
      go_wp2_with (go_at_call 38; refine (toNode_any x an nn cn ak nk ck _ hN hK k1 k2).mono ?_; rintro e w2 ⟨x1, x2, rfl, hN2, hK2, hV2, hW2, g1, g2, hb2⟩; have R3 := R2.after hb2 (Nat.le_refl _); have f3 := (fun j => R3.frozen j); have d0 := (R3.cell _).trans (unhide HE).1; have d1 := (R3.cell _).trans (unhide HE).2.1; have d2 := (R3.cell _).trans (unhide HE).2.2.1; have d3 := (R3.cell _).trans (unhide HE).2.2.2.1; have d4 := (R3.cell _).trans (unhide HE).2.2.2.2)
      obtain ⟨m0, m1, m2, m3, m4⟩ := put5A_at (cs := cs) (p := k * 5) (by omega) (.int .i64 x.op) (.int .i64 x.num) (.string x.text) (.slice (some x1) nn nn) (.slice (some x2) nk nk)
      have E2 := B2.trans (hb2.mono B2.size)
      refine ⟨⟨k + 1, _, unhide Hlt, by go_num, put5_row R3 _ _ _ _ _, by rw [put5A_size]; exact hz2, put5_below E2 (Nat.le_refl _) _ _ _ _ _, hide (unhide HY w2 hb2 _ _ _ _ _ ⟨x1, nn, x2, nk, m0, m1, m2, m3, m4, hN2.put5 (by omega) _ _ _ _ _, hK2.put5 (by omega) _ _ _ _ _, ⟨hV2.put5 (by omega) _ _ _ _ _, hW2.put5 (by omega) _ _ _ _ _⟩, by omega, by omega⟩)⟩, by have := unhide Hlt; simp [intOf]; omega⟩
    · have e : k = n := by omega
      have HX := hide (show Hi wr w.heap.size N from ⟨cs, ⟨R2, by rw [unhide Hl]; exact hz2⟩, fun j hj => unhide Ha j hj (by have := unhide Hl; omega)⟩)
      clear Ha
      have ilt : ¬ ((k : Int) < (n : Int)) := by omega
      go_wp2_with fail
      go_ret
      exact ⟨rfl, B2, unhide HX⟩

set_option maxHeartbeats 800000 in
theorem toStmt_any (s : St) (w : World) :
    Calls Tryz.prog 39 #[.agg #[.int .i64 s.kind, .string s.name, .int .i64 s.cond, .int .i64 s.grant]] w fun e w' => e = .returned (.agg #[.int .i64 s.kind, .string s.name, .int .i64 s.cond, .int .i64 s.grant]) ∧ Below w.heap.size w w' := by
  go_enter Tryz.func39, Tryz.ntmps39
  go_wp2_with fail
  refine bodyPost_ret (v := .agg #[.int .i64 s.kind, .string s.name, .int .i64 s.cond, .int .i64 s.grant]) (by simp [results, Tryz.results39, go_sem]) rfl ⟨rfl, ?_⟩
  exact (((Below.refl w.heap.size w).alloc (Nat.le_refl _) _).alloc (by simp) _).alloc (by simp; omega) _

def put4A (cs : Array Value) (p : Nat) (v0 v1 v2 v3 : Value) : Array Value := (((cs.setIfInBounds p v0).setIfInBounds (p + 1) v1).setIfInBounds (p + 2) v2).setIfInBounds (p + 3) v3

theorem put4A_size (cs : Array Value) (p : Nat) (v0 v1 v2 v3 : Value) : (put4A cs p v0 v1 v2 v3).size = cs.size := by simp [put4A]

theorem put4A_at {cs : Array Value} {p : Nat} (h : p + 4 ≤ cs.size) (v0 v1 v2 v3 : Value) : (put4A cs p v0 v1 v2 v3)[p]? = some v0 ∧ (put4A cs p v0 v1 v2 v3)[p + 1]? = some v1 ∧ (put4A cs p v0 v1 v2 v3)[p + 2]? = some v2 ∧ (put4A cs p v0 v1 v2 v3)[p + 3]? = some v3 := by
  unfold put4A
  refine ⟨?_, ?_, ?_, ?_⟩ <;> simp [Array.getElem?_setIfInBounds] <;> omega

theorem put4A_ne {cs : Array Value} {p q : Nat} (h : q < p) (v0 v1 v2 v3 : Value) : (put4A cs p v0 v1 v2 v3)[q]? = cs[q]? := by
  unfold put4A
  rw [Array.getElem?_setIfInBounds_ne (by omega), Array.getElem?_setIfInBounds_ne (by omega), Array.getElem?_setIfInBounds_ne (by omega), Array.getElem?_setIfInBounds_ne (by omega)]

/-- a statement that lies in the row already -/
def StX (cs : Array Value) (o : Nat) (s : St) : Prop := cs[o]? = some (.int .i64 s.kind) ∧ cs[o + 1]? = some (.string s.name) ∧ cs[o + 2]? = some (.int .i64 s.cond) ∧ cs[o + 3]? = some (.int .i64 s.grant)

theorem StX.step {cs : Array Value} {o p : Nat} {s : St} (h : StX cs o s) (hp : o + 4 ≤ p) (v0 v1 v2 v3 : Value) : StX (put4A cs p v0 v1 v2 v3) o s :=
  ⟨(put4A_ne (by omega) _ _ _ _).trans h.1, (put4A_ne (by omega) _ _ _ _).trans h.2.1, (put4A_ne (by omega) _ _ _ _).trans h.2.2.1, (put4A_ne (by omega) _ _ _ _).trans h.2.2.2⟩

set_option maxRecDepth 100000 in
set_option maxHeartbeats 1600000 in
theorem toStmtS_any (a : Option Addr) (n c : Nat) (N : List St) (w : World) (h : StsR w a n c N) (hsm : n ≤ 1048576) (hs : ∀ x ∈ N, x.name.size ≤ 1048576) :
    Calls Tryz.prog 22 #[.slice a n c] w fun e w' => e = .returned (.slice (some ⟨w.heap.size, 0, none⟩) n n) ∧ Below w.heap.size w w' ∧ Sts w' (some ⟨w.heap.size, 0, none⟩) n n N ∧ Wd w' ⟨w.heap.size, 0, none⟩ (n * 4) 77 := by
  obtain ⟨i, hi, hz0, hz1, hz2⟩ := info_parts infoSt
  have Hl := hide h.len
  go_enter Tryz.func22, Tryz.ntmps22
  go_wp2_with (at_make; refine wpList_make_full _ rfl _ _ 28 rfl w.heap.size 77 i (.agg #[.int .i64 0, .string ByteArray.empty, .int .i64 0, .int .i64 0]) 4 Tryz.underlying28 hi hz0 hz1 _ _ _ _ n rfl rfl rfl rfl ?b2 ?b3 ?b4 ?_)
  case b2 => rw [hz2]; omega
  case b3 => unfold maxLen; omega
  case b4 => exact Nat.le_refl _
  intro w1 hown hgrow
  have hb1 : Below w.heap.size w w1 := (Below.refl _ _).grown hgrow (Nat.le_refl _) (fun k hk => by cases hk)
  clear hgrow
  obtain ⟨cs1, R1, hz⟩ := row_of_owns hown
  have Hs := hide hs
  clear hown hs
  go_wp2_with fail
  go_loopw [4] (fun i wr => ∃ (k : Nat) (cs : Array Value), k ≤ n ∧ i = .int .i64 k ∧ Row wr w.heap.size cs 77 ∧ cs.size = n * 4 ∧ Below w.heap.size w wr ∧ Hid (∀ j, (hj : j < N.length) → j < k → StX cs (j * 4) N[j])) (fun i _ => n - (intOf i).toNat)
  case atStart => exact ⟨0, cs1, Nat.zero_le _, rfl, R1, hz, hb1, hide (fun j _ h => absurd h (by omega))⟩
  case round =>
    obtain ⟨k, cs, hk, rfl, R2, hz2, B2, Ha⟩ := hrel
    clear R1 hb1
    by_cases hlt : k < n
    · have ilt : (k : Int) < (n : Int) := by omega
      have hkl : k < N.length := by rw [unhide Hl]; exact hlt
      obtain ⟨b, off, rfl, hbl, c0, c1, c2, c3⟩ := (h.below B2 (Nat.le_refl _)).cells k hkl
      have hgl := R2.lt
      have HY := hide (fun (v0 v1 v2 v3 : Value) (e : StX (put4A cs (k * 4) v0 v1 v2 v3) (k * 4) N[k]) => show ∀ j, (hj : j < N.length) → j < k + 1 → StX (put4A cs (k * 4) v0 v1 v2 v3) (j * 4) N[j] from fun j hj h' => by
        by_cases ej : j = k
        · subst ej; exact e
        · exact (unhide Ha j hj (by omega)).step (by omega) _ _ _ _)
      have Hlt := hide hlt
      have Hh := hide h
      clear Ha h
      generalize N[k] = x at c0 c1 c2 c3 HY
      obtain ⟨u0, e0⟩ := some_at (cs := cs) (p := k * 4) (by omega)
      obtain ⟨u1, e1⟩ := some_at (cs := cs) (p := k * 4 + 1) (by omega)
      obtain ⟨u2, e2⟩ := some_at (cs := cs) (p := k * 4 + 2) (by omega)
      obtain ⟨u3, e3⟩ := some_at (cs := cs) (p := k * 4 + 3) (by omega)
      have HE := hide (And.intro e0 (And.intro e1 (And.intro e2 e3)))
      clear e0 e1 e2 e3
      go_wp2_with (go_at_call 39; refine (toStmt_any x _).mono ?_; rintro e w2 ⟨rfl, hb2⟩; have R3 := R2.after hb2 (Nat.le_refl _); have f3 := (fun j => R3.frozen j); have d0 := (R3.cell _).trans (unhide HE).1; have d1 := (R3.cell _).trans (unhide HE).2.1; have d2 := (R3.cell _).trans (unhide HE).2.2.1; have d3 := (R3.cell _).trans (unhide HE).2.2.2)
      have E2 := B2.trans (hb2.mono B2.size)
      refine ⟨⟨k + 1, _, unhide Hlt, by go_num, (((R3.set (k * 4) _).set (k * 4 + 1) _).set (k * 4 + 2) _).set (k * 4 + 3) _, (put4A_size cs (k * 4) _ _ _ _).trans hz2, (((E2.setCell (p := ⟨w.heap.size, k * 4, none⟩) (Nat.le_refl _) _).setCell (p := ⟨w.heap.size, k * 4 + 1, none⟩) (Nat.le_refl _) _).setCell (p := ⟨w.heap.size, k * 4 + 2, none⟩) (Nat.le_refl _) _).setCell (p := ⟨w.heap.size, k * 4 + 3, none⟩) (Nat.le_refl _) _, hide (unhide HY _ _ _ _ (put4A_at (by omega) _ _ _ _))⟩, by have := unhide Hlt; simp [intOf]; omega⟩
    · have e : k = n := by omega
      have HX := hide (show Sts wr (some ⟨w.heap.size, 0, none⟩) n n N from ⟨unhide Hl, hsm, unhide Hs, fun j hj => by
        have q := unhide Ha j hj (by have := unhide Hl; omega)
        refine ⟨w.heap.size, 0, rfl, R2.lt, ?_⟩
        rw [Nat.zero_add]
        exact ⟨(R2.cell _).trans q.1, (R2.cell _).trans q.2.1, (R2.cell _).trans q.2.2.1, (R2.cell _).trans q.2.2.2⟩⟩)
      clear Ha
      have ilt : ¬ ((k : Int) < (n : Int)) := by omega
      go_wp2_with fail
      go_ret
      exact ⟨rfl, B2, unhide HX, _, cs, rfl, R2, hz2⟩

end Go.Proofs.YtddpcehgopeklaaGreatDoor

namespace Go.Proofs.YtddpcehgopeklaaGreatDoor
open Go.RowKit
set_option linter.unusedVariables false

def stAtS (L : List St) (j : Nat) (h : j < L.length) : Bool := stmtS (decide (j + 1 = L.length)) L[j]

theorem stmtsS_iff : ∀ (L : List St), stmtsS L = true ↔ ∀ j, (h : j < L.length) → stAtS L j h = true
  | [] => by simp [stmtsS]
  | s :: r => by
    rw [stmtsS, Bool.and_eq_true, stmtsS_iff r]
    have e : r.isEmpty = decide (0 + 1 = (s :: r).length) := by cases r <;> simp
    constructor
    · rintro ⟨h1, h2⟩ j hj
      cases j with
      | zero => rw [e] at h1; exact h1
      | succ j =>
        have := h2 j (by simpa using hj)
        rw [stAtS] at this ⊢
        simp only [List.getElem_cons_succ, List.length_cons] at this ⊢
        rw [show decide (j + 1 + 1 = r.length + 1) = decide (j + 1 = r.length) by rw [decide_eq_decide]; omega]
        exact this
    · intro h
      refine ⟨by rw [e]; exact h 0 (by simp), fun j hj => ?_⟩
      have := h (j + 1) (by simpa using hj)
      rw [stAtS] at this ⊢
      simp only [List.getElem_cons_succ, List.length_cons] at this
      rw [show decide (j + 1 + 1 = r.length + 1) = decide (j + 1 = r.length) by rw [decide_eq_decide]; omega] at this
      exact this

theorem roots_succ (L : List St) (k : Nat) (h : k < L.length) : (L.take (k + 1)).flatMap rootsOf = (L.take k).flatMap rootsOf ++ rootsOf L[k] := by
  rw [List.take_succ_eq_append_getElem h, List.flatMap_append]
  simp

/-- the order that the walks over these tops give -/
def ordF (K : List (List Int)) (n : Nat) (rs : List Int) : List Int := rs.foldl (fun o r => walkF K n r o) []

theorem ordF_append (K : List (List Int)) (n : Nat) (rs qs : List Int) : ordF K n (rs ++ qs) = qs.foldl (fun o r => walkF K n r o) (ordF K n rs) := by rw [ordF, List.foldl_append, ordF]

theorem kids_three {N : List Nd} (h : N.all fieldsB = true) : ∀ ks ∈ N.map Nd.kids, ks.length ≤ 3 := by
  intro ks hk
  obtain ⟨x, hx, rfl⟩ := List.mem_map.1 hk
  have := List.all_eq_true.1 h x hx
  rw [fieldsB_wf, Bool.and_eq_true] at this
  have h1 := of_decide_eq_true this.1
  unfold kidN at h1
  split at h1
  · omega
  · split at h1
    · omega
    · split at h1
      · omega
      · split at h1 <;> omega

theorem Forest.kids {K : List (List Int)} {a b : Nat} {fs : List (Nat × Nat)} (h : Forest K a fs b) : ∀ j, a ≤ j → j < b → ∃ ks, K[j]? = some (topsI ks) ∧ ∀ p ∈ ks, p.1 < j := by
  induction h with
  | nil a => intro j h1 h2; omega
  | cons hk ht hf i1 i2 =>
    rename_i a t b ks fs
    intro j h1 h2
    rcases Nat.lt_trichotomy j t with e | e | e
    · exact i1 j h1 e
    · subst e; exact ⟨ks, ht, fun p hp => (hk.lt p hp).2⟩
    · exact i2 j (by omega) h2

/-- where the walks give all nodes in order, all kids stand ahead -/
theorem kids_ahead {N : List Nd} {n : Nat} {rs : List Int} (hn : N.length = n) (hl : (ordF (N.map Nd.kids) n rs).length = n) (hg : good (ordF (N.map Nd.kids) n rs)) :
    (∀ t, (h : t < N.length) → ∀ y ∈ N[t].kids, 0 ≤ y ∧ y < (t : Int)) ∧ ∀ r ∈ rs, 0 ≤ r ∧ r < (n : Int) := by
  obtain ⟨fs, e1, hf⟩ := roots_good (K := N.map Nd.kids) (n := n) rs [] hg
  have hf' : Forest (N.map Nd.kids) 0 fs n := by
    have : (rs.foldl (fun o k => walkF (N.map Nd.kids) n k o) []).length = n := hl
    rw [this] at hf
    exact hf
  constructor
  · intro t h y hy
    obtain ⟨ks, h1, h2⟩ := hf'.kids t (Nat.zero_le _) (by omega)
    rw [List.getElem?_map, List.getElem?_eq_getElem h] at h1
    have h3 : N[t].kids = topsI ks := by simpa using h1
    rw [h3] at hy
    obtain ⟨p, hp, rfl⟩ := List.mem_map.1 hy
    have := h2 p hp
    omega
  · intro r hr
    rw [← e1] at hr
    obtain ⟨p, hp, rfl⟩ := List.mem_map.1 hr
    have := hf'.lt p hp
    omega

end Go.Proofs.YtddpcehgopeklaaGreatDoor

namespace Go.Proofs.YtddpcehgopeklaaGreatDoor
open Go.RowKit
set_option linter.unusedVariables false

def ShapeAns (n m : Nat) (N : List Nd) (L : List St) (e : Ending) : Prop := ∃ b : Bool, e = .returned (.bool b) ∧ (b = true ↔ (n ≤ 4000 ∧ 1 ≤ m ∧ m ≤ 600) ∧ N.all fieldsB = true ∧ ValidS N L)

theorem shape_no {n m : Nat} {N : List Nd} {L : List St} (h : ¬ ((n ≤ 4000 ∧ 1 ≤ m ∧ m ≤ 600) ∧ N.all fieldsB = true ∧ ValidS N L)) : ShapeAns n m N L (.returned (.bool false)) := ⟨false, rfl, by constructor <;> intro k; cases k; exact absurd k h⟩

theorem isE_true {s : ByteArray} (h : s.size = 0) : s.toList.isEmpty = true := List.isEmpty_iff.2 ((tl_nil s).2 h)
theorem isE_false {s : ByteArray} (h : s.size ≠ 0) : s.toList.isEmpty = false := by rw [Bool.eq_false_iff]; intro k; exact h ((tl_nil s).1 (List.isEmpty_iff.1 k))

theorem ownsRow_ne {w : World} {base : Nat} {e : TypeId} {size : Nat} {v : Value} {n : Nat} {xs : List Value} (h : w.ownsRow base e size v n xs) : v.ownBlock ≠ some w.heap.size := fun k => by have := (h.lt _ k).2; omega

set_option maxRecDepth 100000 in
set_option maxHeartbeats 32000000 in
theorem l2shape_any (a b : Option Addr) (n c m d : Nat) (N : List Nd) (L : List St) (w : World) (h1 : Nds w a n c N) (h2 : Sts w b m d L) :
    Calls Tryz.prog 36 #[.slice a n c, .slice b m d, .bool false] w fun e w' => ShapeAns n m N L e ∧ Below w.heap.size w w' := by
  have s1 := h1.small
  have s2 := h2.small
  have HN := hide h1.len
  have HL := hide h2.len
  go_enter Tryz.func36, Tryz.ntmps36
  by_cases hn : 4000 < n
  · have ih : (4000 : Int) < (n : Int) := by omega
    have HX := hide (shape_no (n := n) (m := m) (N := N) (L := L) (fun h => by omega))
    clear hn
    go_wp2_with fail
    go_ret
    exact ⟨unhide HX, Below.refl _ _⟩
  have ih : ¬ ((4000 : Int) < (n : Int)) := by omega
  by_cases hm : m < 1
  · have im : (m : Int) < 1 := by omega
    have HX := hide (shape_no (n := n) (m := m) (N := N) (L := L) (fun h => by omega))
    clear hn hm
    go_wp2_with fail
    go_ret
    exact ⟨unhide HX, Below.refl _ _⟩
  have im : ¬ ((m : Int) < 1) := by omega
  by_cases hm6 : 600 < m
  · have im6 : (600 : Int) < (m : Int) := by omega
    have HX := hide (shape_no (n := n) (m := m) (N := N) (L := L) (fun h => by omega))
    clear hn hm hm6
    go_wp2_with fail
    go_ret
    exact ⟨unhide HX, Below.refl _ _⟩
  have im6 : ¬ ((600 : Int) < (m : Int)) := by omega
  have hn4 : n ≤ 4000 := by omega
  have hm4 : m ≤ 600 := by omega
  have hm1 : 1 ≤ m := by omega
  clear hn hm hm6
  go_wp2_with fail
  go_loopw [33] (fun i wr => ∃ k : Nat, k ≤ n ∧ i = .int .i64 k ∧ Below w.heap.size w wr ∧ Hid (∀ j, (hj : j < N.length) → j < k → fieldsB N[j] = true)) (fun i _ => n - (intOf i).toNat)
  case atStart => exact ⟨0, by omega, rfl, Below.refl _ _, hide (fun j hj h => absurd h (by omega))⟩
  case round =>
    obtain ⟨k, hk, rfl, B1, Ha⟩ := hrel
    by_cases hlt : k < n
    · have ilt : (k : Int) < (n : Int) := by omega
      have hkl : k < N.length := by rw [unhide HN]; exact hlt
      have hsz := h1.sizes N[k] (List.getElem_mem hkl)
      obtain ⟨b', off, rfl, hb, an, nn, cn, ak, nk, ck, c0, c1, c2, c3, c4, hNm, hK⟩ := (h1.below B1 (Nat.le_refl _)).cells k hkl
      have Hno := hide (show fieldsB N[k] = false → ShapeAns n m N L (.returned (.bool false)) from fun e => shape_no (fun h => by
        have := (all_iff_at N).1 h.2.1 k hkl
        rw [this] at e
        cases e))
      have HY := hide (show fieldsB N[k] = true → ∀ j, (hj : j < N.length) → j < k + 1 → fieldsB N[j] = true from fun e j hj h' => by
        by_cases ej : j = k
        · subst ej; exact e
        · exact unhide Ha j hj (by omega))
      have Hlt := hide hlt
      clear Ha
      generalize N[k] = x at c0 c1 c2 c3 c4 hNm hK hsz Hno HY
      have HKL := hide hK.len
      have hKs := hK.small
      have B2 := B1.alloc B1.size (.cells #[.int .i64 x.op, .int .i64 x.num, .string x.text, .slice an nn cn, .slice ak nk ck] 53)
      have C2 := (Below.refl wr.heap.size wr).alloc (Nat.le_refl _) (.cells #[.int .i64 x.op, .int .i64 x.num, .string x.text, .slice an nn cn, .slice ak nk ck] 53)
      have N2 := hNm.below C2 (Nat.le_refl _)
      clear hNm hK
      cases hv : fieldsB x
      · have HX := hide (unhide Hno hv)
        have Hv := hide hv
        clear hv Hno HY
        go_wp2_with (go_at_call 56; refine (l2fields_any x an nn cn ak nk ck _ N2 (unhide HKL).symm hsz hKs).mono ?_; rintro e w2 ⟨rfl, hb2⟩; rw [unhide Hv])
        go_ret
        exact ⟨unhide HX, B2.trans (hb2.mono B2.size)⟩
      · have HY2 := hide (unhide HY hv)
        have Hv := hide hv
        clear hv Hno HY
        go_wp2_with (go_at_call 56; refine (l2fields_any x an nn cn ak nk ck _ N2 (unhide HKL).symm hsz hKs).mono ?_; rintro e w2 ⟨rfl, hb2⟩; rw [unhide Hv])
        go_roundw
        case rel => exact ⟨k + 1, unhide Hlt, by go_num, B2.trans (hb2.mono B2.size), HY2⟩
        case measure => have := unhide Hlt; simp [intOf]; omega
    · have e : k = n := by omega
      have HA := hide (show N.all fieldsB = true from (all_iff_at N).2 (fun j hj => unhide Ha j hj (by have := unhide HN; omega)))
      have H3 := hide (kids_three (unhide HA))
      have HKn := hide (show (N.map Nd.kids).length = n by rw [List.length_map]; exact unhide HN)
      subst e
      have Bx := hide B1
      clear Ha hlt B1
      go_wp2_with fail
      go_loopw [9, 44] (fun v i wr => ∃ (q : Nat) (O : List Int), q ≤ m ∧ i = .int .i64 q ∧ Below w.heap.size w wr ∧ Hid (∀ j, (h : j < L.length) → j < q → stAtS L j h = true) ∧ Hid (ordF (N.map Nd.kids) k ((L.take q).flatMap rootsOf) = O) ∧ O.length ≤ 4 * k + 2 * q ∧ wr.ownsRow w.heap.size 3 1 v O.length (intsV O)) (fun _ i _ => m - (intOf i).toNat)
      case atStart => exact ⟨0, [], by omega, rfl, unhide Bx, hide (fun j h h' => absurd h' (by omega)), hide (by simp [ordF]), by simp, World.ownsRow_nil _ _ _ _⟩
      case round =>
        obtain ⟨q, O, hq, rfl, B1, Ha, HO, hOl, O1⟩ := hrel
        obtain ⟨xo, co, rfl, hxo⟩ := owns_form2 O1
        by_cases hlt : q < m
        · have ilt : (q : Int) < (m : Int) := by omega
          have hkl : q < L.length := by rw [unhide HL]; exact hlt
          have hsz := h2.sizes L[q] (List.getElem_mem hkl)
          obtain ⟨b', off, rfl, hb, c0, c1, c2, c3⟩ := (h2.below B1 (Nat.le_refl _)).cells q hkl
          have Hno := hide (show stmtS (decide (q + 1 = m)) L[q] = false → ShapeAns k m N L (.returned (.bool false)) from fun e => shape_no (fun h => by
            have := (stmtsS_iff L).1 h.2.2.1 q hkl
            rw [stAtS, unhide HL, e] at this
            cases this))
          have HY := hide (show stmtS (decide (q + 1 = m)) L[q] = true → ∀ j, (h : j < L.length) → j < q + 1 → stAtS L j h = true from fun e j hj h' => by
            by_cases ej : j = q
            · subst ej; rw [stAtS, unhide HL]; exact e
            · exact unhide Ha j hj (by omega))
          have HOS := hide (show ordF (N.map Nd.kids) k ((L.take (q + 1)).flatMap rootsOf) = (rootsOf L[q]).foldl (fun o r => walkF (N.map Nd.kids) k r o) O by rw [roots_succ L q hkl, ordF_append, unhide HO])
          have Hlt := hide hlt
          clear Ha HO hxo
          generalize L[q] = s at c0 c1 c2 c3 hsz Hno HY HOS
          obtain ⟨kind, name, cond, grant⟩ := s
          simp only at c0 c1 c2 c3 hsz
          have R2 := Row.new wr #[.int .i64 kind, .string name, .int .i64 cond, .int .i64 grant] 77
          have B2 := B1.alloc B1.size (.cells #[.int .i64 kind, .string name, .int .i64 cond, .int .i64 grant] 77)
          have O2 := O1.alloc (.cells #[.int .i64 kind, .string name, .int .i64 cond, .int .i64 grant] 77)
          have hne := ownsRow_ne O1
          have z1 : (wr.alloc (.cells #[.int .i64 kind, .string name, .int .i64 cond, .int .i64 grant] 77)).heap.size = wr.heap.size + 1 := by simp
          have HWl := hide (fun r O => by have := walkF_len (K := N.map Nd.kids) (unhide H3) k r O; rw [unhide HKn] at this; exact this)
          by_cases kl : q + 1 = m
          · have el : ((q : Int) == (m : Int) - 1) = true := beq_iff_eq.2 (by omega)
            rw [decide_eq_true kl] at Hno HY
            clear kl
            by_cases k1 : kind = 1
            · have e1 : (kind == 1) = true := beq_iff_eq.2 k1
              subst k1
              have HX := hide (unhide Hno (by simp [stmtS]))
              clear Hno HY HOS HWl
              go_wp2_with fail
              go_ret
              exact ⟨unhide HX, B2⟩
            have e1 : (kind == 1) = false := beq_eq_false_iff_ne.2 k1
            by_cases k2 : kind = 2
            · have e2 : (kind == 2) = true := beq_iff_eq.2 k2
              subst k2
              clear k1
              have HX := hide (unhide Hno (by simp [stmtS]))
              clear Hno HY HOS HWl
              go_wp2_with fail
              go_ret
              exact ⟨unhide HX, B2⟩
            have e2 : (kind == 2) = false := beq_eq_false_iff_ne.2 k2
            by_cases k3 : kind = 3
            · have e3 : (kind == 3) = true := beq_iff_eq.2 k3
              subst k3
              clear k1 k2
              by_cases hnm : name.size = 0
              · have en := isE_true hnm
                by_cases kc : cond = -1
                · have ec : (cond == -1) = true := beq_iff_eq.2 kc
                  subst kc
                  by_cases ig : -1 ≤ grant
                  · by_cases ig0 : 0 ≤ grant
                    · skip
                      have HY2 := hide (unhide HY (by simp [stmtS, hnm, ig]))
                      obtain ⟨Ob, HW2⟩ : ∃ Ob, Hid (walkF (N.map Nd.kids) k grant O = Ob) := ⟨_, hide rfl⟩
                      have hlb : Ob.length ≤ max O.length (k + 3 * k) + 1 := by rw [← unhide HW2]; exact unhide HWl grant O
                      have HO2 := hide (show ordF (N.map Nd.kids) k ((L.take (q + 1)).flatMap rootsOf) = Ob by rw [unhide HOS]; rw [← unhide HW2]; simp [rootsOf, ig0])
                      clear Hno HY HOS
                      go_wp2_with (go_at_call 58; refine (l2walk_any _ k c N w w.heap.size h1 (Nat.le_refl _) hn4 (unhide H3) k grant O _ _ hn4 (.inl (Nat.le_of_eq (unhide HN))) (by omega) B2 B2.size O2).mono ?_; rintro e w5 ⟨v5, rfl, O5, hb5, K5⟩; rw [unhide HW2] at O5; have E5 := B2.trans hb5)
                      go_roundw
                      case rel => exact ⟨q + 1, Ob, unhide Hlt, by go_num, E5, HY2, HO2, by omega, O5⟩
                      case measure => have := unhide Hlt; simp [intOf]; omega
                    · skip
                      have HY2 := hide (unhide HY (by simp [stmtS, hnm, ig]))
                      have HO2 := hide (show ordF (N.map Nd.kids) k ((L.take (q + 1)).flatMap rootsOf) = O by rw [unhide HOS]; simp [rootsOf, ig0])
                      clear Hno HY HOS
                      go_wp2_with fail
                      go_roundw
                      case rel => exact ⟨q + 1, O, unhide Hlt, by go_num, B2, HY2, HO2, by omega, O2⟩
                      case measure => have := unhide Hlt; simp [intOf]; omega
                  · skip
                    have HX := hide (unhide Hno (by simp [stmtS, ig]))
                    clear Hno HY HOS HWl
                    go_wp2_with fail
                    go_ret
                    exact ⟨unhide HX, B2⟩
                · have ec : (cond == -1) = false := beq_eq_false_iff_ne.2 kc
                  have HX := hide (unhide Hno (by simp [stmtS, kc]))
                  clear Hno HY HOS HWl
                  go_wp2_with fail
                  go_ret
                  exact ⟨unhide HX, B2⟩
              · have en := isE_false hnm
                have HX := hide (unhide Hno (by simp [stmtS, hnm]))
                clear Hno HY HOS HWl
                go_wp2_with fail
                go_ret
                exact ⟨unhide HX, B2⟩
            have e3 : (kind == 3) = false := beq_eq_false_iff_ne.2 k3
            have HX := hide (unhide Hno (by simp [stmtS, k1, k2, k3]))
            clear Hno HY HOS HWl
            go_wp2_with fail
            go_ret
            exact ⟨unhide HX, B2⟩
          · have el : ((q : Int) == (m : Int) - 1) = false := beq_eq_false_iff_ne.2 (by omega)
            rw [decide_eq_false kl] at Hno HY
            clear kl
            by_cases k1 : kind = 1
            · have e1 : (kind == 1) = true := beq_iff_eq.2 k1
              subst k1
              cases hi : identB name
              · have Hi := hide hi
                clear hi
                have HX := hide (unhide Hno (by simp [stmtS, unhide Hi]))
                clear Hno HY HOS HWl
                go_wp2_with (go_at_call 57; refine (l2ident_any _ _ hsz).mono ?_; rintro e w2 ⟨rfl, hb2⟩; rw [unhide Hi]; have E2 := B2.trans (hb2.mono B2.size); have R3 := R2.after hb2 (Nat.le_refl _); have O3 := ownsRow_below O2 hb2 (Nat.le_refl _); have z2 := hb2.size; obtain ⟨q0, q1, q2, q3, qf⟩ := row4' R3)
                go_ret
                exact ⟨unhide HX, E2⟩
              · have Hi := hide hi
                clear hi
                by_cases ic : 0 ≤ cond
                · by_cases kg : grant = -1
                  · have eg : (grant == -1) = true := beq_iff_eq.2 kg
                    subst kg
                    have HY2 := hide (unhide HY (by simp [stmtS, unhide Hi, ic]))
                    obtain ⟨Oa, HW1⟩ : ∃ Oa, Hid (walkF (N.map Nd.kids) k cond O = Oa) := ⟨_, hide rfl⟩
                    have hla : Oa.length ≤ max O.length (k + 3 * k) + 1 := by rw [← unhide HW1]; exact unhide HWl cond O
                    have hcl := ic
                    have HO2 := hide (show ordF (N.map Nd.kids) k ((L.take (q + 1)).flatMap rootsOf) = Oa by rw [unhide HOS]; rw [← unhide HW1]; simp [rootsOf, ic])
                    clear Hno HY HOS
                    go_wp2_with (first | (go_at_call 57; refine (l2ident_any _ _ hsz).mono ?_; rintro e w2 ⟨rfl, hb2⟩; rw [unhide Hi]; have E2 := B2.trans (hb2.mono B2.size); have R3 := R2.after hb2 (Nat.le_refl _); have O3 := ownsRow_below O2 hb2 (Nat.le_refl _); have z2 := hb2.size; obtain ⟨q0, q1, q2, q3, qf⟩ := row4' R3) | (go_at_call 58; refine (l2walk_any _ k c N w w.heap.size h1 (Nat.le_refl _) hn4 (unhide H3) k cond O _ w2 hn4 (.inl (Nat.le_of_eq (unhide HN))) (by omega) E2 E2.size O3).mono ?_; rintro e w4 ⟨v4, rfl, O4, hb4, K4⟩; rw [unhide HW1] at O4; have E4 := E2.trans hb4; have R4 := R3.keep K4 hne; have hne4 : v4.ownBlock ≠ some wr.heap.size := (fun e => by rcases K4.2.1 _ e with x | x; exact hne x; (have := z2; omega)); obtain ⟨x4, c4, rfl, _⟩ := owns_form2 O4; obtain ⟨p0, p1, p2, p3, pf⟩ := row4' R4))
                    go_roundw
                    case rel => exact ⟨q + 1, Oa, unhide Hlt, by go_num, E4, HY2, HO2, by omega, O4⟩
                    case measure => have := unhide Hlt; simp [intOf]; omega
                  · have eg : (grant == -1) = false := beq_eq_false_iff_ne.2 kg
                    have HX := hide (unhide Hno (by simp [stmtS, unhide Hi, kg]))
                    clear Hno HY HOS HWl
                    go_wp2_with (go_at_call 57; refine (l2ident_any _ _ hsz).mono ?_; rintro e w2 ⟨rfl, hb2⟩; rw [unhide Hi]; have E2 := B2.trans (hb2.mono B2.size); have R3 := R2.after hb2 (Nat.le_refl _); have O3 := ownsRow_below O2 hb2 (Nat.le_refl _); have z2 := hb2.size; obtain ⟨q0, q1, q2, q3, qf⟩ := row4' R3)
                    go_ret
                    exact ⟨unhide HX, E2⟩
                · skip
                  have HX := hide (unhide Hno (by simp [stmtS, unhide Hi, ic]))
                  clear Hno HY HOS HWl
                  go_wp2_with (go_at_call 57; refine (l2ident_any _ _ hsz).mono ?_; rintro e w2 ⟨rfl, hb2⟩; rw [unhide Hi]; have E2 := B2.trans (hb2.mono B2.size); have R3 := R2.after hb2 (Nat.le_refl _); have O3 := ownsRow_below O2 hb2 (Nat.le_refl _); have z2 := hb2.size; obtain ⟨q0, q1, q2, q3, qf⟩ := row4' R3)
                  go_ret
                  exact ⟨unhide HX, E2⟩
            have e1 : (kind == 1) = false := beq_eq_false_iff_ne.2 k1
            by_cases k2 : kind = 2
            · have e2 : (kind == 2) = true := beq_iff_eq.2 k2
              subst k2
              clear k1
              by_cases hnm : name.size = 0
              · have en := isE_true hnm
                by_cases ic : 0 ≤ cond
                · by_cases ig : -1 ≤ grant
                  · by_cases ig0 : 0 ≤ grant
                    · skip
                      have HY2 := hide (unhide HY (by simp [stmtS, hnm, ic, ig]))
                      obtain ⟨Oa, HW1⟩ : ∃ Oa, Hid (walkF (N.map Nd.kids) k cond O = Oa) := ⟨_, hide rfl⟩
                      have hla : Oa.length ≤ max O.length (k + 3 * k) + 1 := by rw [← unhide HW1]; exact unhide HWl cond O
                      obtain ⟨Ob, HW2⟩ : ∃ Ob, Hid (walkF (N.map Nd.kids) k grant Oa = Ob) := ⟨_, hide rfl⟩
                      have hlb : Ob.length ≤ max Oa.length (k + 3 * k) + 1 := by rw [← unhide HW2]; exact unhide HWl grant Oa
                      have HO2 := hide (show ordF (N.map Nd.kids) k ((L.take (q + 1)).flatMap rootsOf) = Ob by rw [unhide HOS]; rw [← unhide HW2, ← unhide HW1]; simp [rootsOf, ic, ig0])
                      clear Hno HY HOS
                      go_wp2_with (first | (go_at_call 58; refine (l2walk_any _ k c N w w.heap.size h1 (Nat.le_refl _) hn4 (unhide H3) k grant Oa _ w4 hn4 (.inl (Nat.le_of_eq (unhide HN))) (by omega) E4 E4.size O4).mono ?_; rintro e w5 ⟨v5, rfl, O5, hb5, K5⟩; rw [unhide HW2] at O5; have E5 := E4.trans hb5) | (go_at_call 58; refine (l2walk_any _ k c N w w.heap.size h1 (Nat.le_refl _) hn4 (unhide H3) k cond O _ _ hn4 (.inl (Nat.le_of_eq (unhide HN))) (by omega) B2 B2.size O2).mono ?_; rintro e w4 ⟨v4, rfl, O4, hb4, K4⟩; rw [unhide HW1] at O4; have E4 := B2.trans hb4; have R4 := R2.keep K4 hne; have hne4 : v4.ownBlock ≠ some wr.heap.size := (fun e => by rcases K4.2.1 _ e with x | x; exact hne x; (have := z1; omega)); obtain ⟨x4, c4, rfl, _⟩ := owns_form2 O4; obtain ⟨p0, p1, p2, p3, pf⟩ := row4' R4))
                      go_roundw
                      case rel => exact ⟨q + 1, Ob, unhide Hlt, by go_num, E5, HY2, HO2, by omega, O5⟩
                      case measure => have := unhide Hlt; simp [intOf]; omega
                    · skip
                      have HY2 := hide (unhide HY (by simp [stmtS, hnm, ic, ig]))
                      obtain ⟨Oa, HW1⟩ : ∃ Oa, Hid (walkF (N.map Nd.kids) k cond O = Oa) := ⟨_, hide rfl⟩
                      have hla : Oa.length ≤ max O.length (k + 3 * k) + 1 := by rw [← unhide HW1]; exact unhide HWl cond O
                      have HO2 := hide (show ordF (N.map Nd.kids) k ((L.take (q + 1)).flatMap rootsOf) = Oa by rw [unhide HOS]; rw [← unhide HW1]; simp [rootsOf, ic, ig0])
                      clear Hno HY HOS
                      go_wp2_with (go_at_call 58; refine (l2walk_any _ k c N w w.heap.size h1 (Nat.le_refl _) hn4 (unhide H3) k cond O _ _ hn4 (.inl (Nat.le_of_eq (unhide HN))) (by omega) B2 B2.size O2).mono ?_; rintro e w4 ⟨v4, rfl, O4, hb4, K4⟩; rw [unhide HW1] at O4; have E4 := B2.trans hb4; have R4 := R2.keep K4 hne; have hne4 : v4.ownBlock ≠ some wr.heap.size := (fun e => by rcases K4.2.1 _ e with x | x; exact hne x; (have := z1; omega)); obtain ⟨x4, c4, rfl, _⟩ := owns_form2 O4; obtain ⟨p0, p1, p2, p3, pf⟩ := row4' R4)
                      go_roundw
                      case rel => exact ⟨q + 1, Oa, unhide Hlt, by go_num, E4, HY2, HO2, by omega, O4⟩
                      case measure => have := unhide Hlt; simp [intOf]; omega
                  · skip
                    have HX := hide (unhide Hno (by simp [stmtS, ig]))
                    clear Hno HY HOS HWl
                    go_wp2_with fail
                    go_ret
                    exact ⟨unhide HX, B2⟩
                · skip
                  have HX := hide (unhide Hno (by simp [stmtS, ic]))
                  clear Hno HY HOS HWl
                  go_wp2_with fail
                  go_ret
                  exact ⟨unhide HX, B2⟩
              · have en := isE_false hnm
                have HX := hide (unhide Hno (by simp [stmtS, hnm]))
                clear Hno HY HOS HWl
                go_wp2_with fail
                go_ret
                exact ⟨unhide HX, B2⟩
            have e2 : (kind == 2) = false := beq_eq_false_iff_ne.2 k2
            by_cases k3 : kind = 3
            · have e3 : (kind == 3) = true := beq_iff_eq.2 k3
              subst k3
              clear k1 k2
              have HX := hide (unhide Hno (by simp [stmtS]))
              clear Hno HY HOS HWl
              go_wp2_with fail
              go_ret
              exact ⟨unhide HX, B2⟩
            have e3 : (kind == 3) = false := beq_eq_false_iff_ne.2 k3
            have HX := hide (unhide Hno (by simp [stmtS, k1, k2, k3]))
            clear Hno HY HOS HWl
            go_wp2_with fail
            go_ret
            exact ⟨unhide HX, B2⟩
        · have e : q = m := by omega
          subst e
          have HT : L.take q = L := List.take_of_length_le (by rw [unhide HL]; exact Nat.le_refl _)
          rw [HT] at HO
          clear HT
          have HS := hide (show stmtsS L = true from (stmtsS_iff L).2 (fun j h => unhide Ha j h (by have := unhide HL; omega)))
          have HVS := hide (show ValidS N L ↔ stmtsS L = true ∧ O.length = k ∧ good O ∧ ∀ r ∈ L.flatMap rootsOf, depthF (N.map Nd.kids) k r ≤ 64 by
            rw [ValidS, unhide HN]
            rw [← unhide HO]
            exact Iff.rfl)
          have Hxo := hide hxo
          clear Ha hxo
          by_cases hol : O.length = k
          case neg =>
            have eol : ((O.length : Int) != (k : Int)) = true := bne_iff_ne.2 (by omega)
            have HX := hide (shape_no (n := k) (m := q) (N := N) (L := L) (fun h => hol ((unhide HVS).1 h.2.2).2.1))
            clear hol
            go_wp2_with fail
            go_ret
            exact ⟨unhide HX, B1⟩
          have eol : ((O.length : Int) != (k : Int)) = false := by rw [hol]; simp
          have HOL := hide hol
          clear hol
          go_wp2_with fail
          go_loop [138] (fun i => ∃ j : Nat, j ≤ O.length ∧ i = .int .i64 j ∧ Hid (∀ p, (h : p < O.length) → p < j → O[p] = (p : Int))) (fun i => O.length - (intOf i).toNat)
          case atStart => exact ⟨0, by omega, rfl, hide (fun p h h' => absurd h' (by omega))⟩
          case round =>
            obtain ⟨j, hj, rfl, Hg⟩ := hrel
            by_cases hjl : j < O.length
            · have ijl : (j : Int) < (O.length : Int) := by omega
              obtain ⟨g, rfl, hgl, hgc⟩ := unhide Hxo (by omega)
              have t0 := hgc j _ (show (intsV O)[j]? = some (.int .i64 O[j]) by rw [intsV, List.getElem?_map, List.getElem?_eq_getElem hjl]; rfl)
              have HG := hide (show O[j] = (j : Int) → ∀ p, (h : p < O.length) → p < j + 1 → O[p] = (p : Int) from fun e p h h' => by
                by_cases ej : p = j
                · subst ej; exact e
                · exact unhide Hg p h (by omega))
              have HB := hide (show O[j] ≠ (j : Int) → ShapeAns k q N L (.returned (.bool false)) from fun e => shape_no (fun h => e ((good_iff O).1 ((unhide HVS).1 h.2.2).2.2.1 j hjl)))
              have Hjl := hide hjl
              clear hgc Hg
              generalize O[j] = y at t0 HG HB
              by_cases hy : y = (j : Int)
              · have ey : ((j : Int) != y) = false := by rw [hy]; simp
                have HG2 := hide (unhide HG hy)
                clear hy HG HB
                go_wp2_with fail
                go_round
                case rel => exact ⟨j + 1, unhide Hjl, by go_num, HG2⟩
                case measure => have := unhide Hjl; simp [intOf]; omega
              · have ey : ((j : Int) != y) = true := bne_iff_ne.2 (fun e => hy e.symm)
                have HX := hide (unhide HB hy)
                clear hy HG HB
                go_wp2_with fail
                go_ret
                exact ⟨unhide HX, B1⟩
            · have HGd := hide (show good O from (good_iff O).2 (fun p h => unhide Hg p h (by omega)))
              have HKA := hide (kids_ahead (N := N) (n := k) (rs := L.flatMap rootsOf) (unhide HN) (by rw [unhide HO]; exact unhide HOL) (by rw [unhide HO]; exact unhide HGd))
              have ijl : ¬ ((j : Int) < (O.length : Int)) := by omega
              have Bx := hide B1
              clear Hg Hxo O1 B1
              go_wp2_with fail
              go_loopw [149] (fun i wr => ∃ p : Nat, p ≤ q ∧ i = .int .i64 p ∧ Below w.heap.size w wr ∧ Hid (∀ r ∈ (L.take p).flatMap rootsOf, depthF (N.map Nd.kids) k r ≤ 64)) (fun i _ => q - (intOf i).toNat)
              case atStart => exact ⟨0, by omega, rfl, unhide Bx, hide (by simp)⟩
              case round =>
                obtain ⟨p, hp, rfl, B1, Hd⟩ := hrel
                by_cases hlt : p < q
                · have ilt : (p : Int) < (q : Int) := by omega
                  have hkl : p < L.length := by rw [unhide HL]; exact hlt
                  obtain ⟨b', off, rfl, hb, c0, c1, c2, c3⟩ := (h2.below B1 (Nat.le_refl _)).cells p hkl
                  have HRR := hide (show ∀ r ∈ rootsOf L[p], (0 ≤ r ∧ r < (k : Int)) ∧ r ∈ L.flatMap rootsOf from fun r hr => by
                    have hm : r ∈ L.flatMap rootsOf := List.mem_flatMap.2 ⟨L[p], List.getElem_mem hkl, hr⟩
                    exact ⟨(unhide HKA).2 r hm, hm⟩)
                  have HB := hide (show ∀ r ∈ rootsOf L[p], ¬ depthF (N.map Nd.kids) k r ≤ 64 → ShapeAns k q N L (.returned (.bool false)) from fun r hr e => shape_no (fun h => e (((unhide HVS).1 h.2.2).2.2.2 r (unhide HRR r hr).2)))
                  have HStep := hide (show (∀ r ∈ rootsOf L[p], depthF (N.map Nd.kids) k r ≤ 64) → ∀ r ∈ (L.take (p + 1)).flatMap rootsOf, depthF (N.map Nd.kids) k r ≤ 64 from fun e r hr => by
                    rw [roots_succ L p hkl] at hr
                    rcases List.mem_append.1 hr with x | x
                    · exact unhide Hd r x
                    · exact e r x)
                  have Hlt := hide hlt
                  clear Hd
                  generalize L[p] = s at c0 c1 c2 c3 HRR HB HStep
                  obtain ⟨kind, name, cond, grant⟩ := s
                  simp only at c0 c1 c2 c3
                  have R2 := Row.new wr #[.int .i64 kind, .string name, .int .i64 cond, .int .i64 grant] 77
                  have B2 := B1.alloc B1.size (.cells #[.int .i64 kind, .string name, .int .i64 cond, .int .i64 grant] 77)
                  have HOK := hide (unhide HKA).1
                  have HDl := hide (depthF_le (N.map Nd.kids) k)
                  by_cases it : 0 ≤ cond
                  · skip
                    obtain ⟨⟨hr0t, hr1t⟩, _⟩ := unhide HRR cond (by simp [rootsOf, it])
                    obtain ⟨t, rfl⟩ : ∃ t : Nat, cond = (t : Int) := ⟨cond.toNat, by omega⟩
                    obtain ⟨D, HD⟩ : ∃ D, Hid (depthF (N.map Nd.kids) k (t : Int) = D) := ⟨_, hide rfl⟩
                    have hlD : D ≤ k + 1 := by rw [← unhide HD]; exact unhide HDl _
                    by_cases hD : 64 < D
                    · skip
                      have iD : (64 : Int) < (D : Int) := by omega
                      have HX := hide (unhide HB (t : Int) (by simp [rootsOf, it]) (by rw [unhide HD]; omega))
                      clear HB HStep HRR
                      go_wp2_with (go_at_call 59; refine (l2depth_any _ k c N w h1 (unhide HOK) k t _ (by omega) (by omega) (by omega) B2).mono ?_; rintro e wa ⟨rfl, hbwa⟩; rw [unhide HD]; have Ewa := B2.trans (hbwa.mono B2.size))
                      go_ret
                      exact ⟨unhide HX, Ewa⟩
                    · have iD : ¬ ((64 : Int) < (D : Int)) := by omega
                      by_cases iu : 0 ≤ grant
                      · skip
                        obtain ⟨⟨hr0u, hr1u⟩, _⟩ := unhide HRR grant (by simp [rootsOf, iu])
                        obtain ⟨u, rfl⟩ : ∃ u : Nat, grant = (u : Int) := ⟨grant.toNat, by omega⟩
                        obtain ⟨G, HG⟩ : ∃ G, Hid (depthF (N.map Nd.kids) k (u : Int) = G) := ⟨_, hide rfl⟩
                        have hlG : G ≤ k + 1 := by rw [← unhide HG]; exact unhide HDl _
                        by_cases hG : 64 < G
                        · skip
                          have iG : (64 : Int) < (G : Int) := by omega
                          have HX := hide (unhide HB (u : Int) (by simp [rootsOf, iu]) (by rw [unhide HG]; omega))
                          clear HB HStep HRR
                          go_wp2_with (first | (go_at_call 59; refine (l2depth_any _ k c N w h1 (unhide HOK) k u wa (by omega) (by omega) (by omega) Ewa).mono ?_; rintro e wb ⟨rfl, hbwb⟩; rw [unhide HG]; have Ewb := Ewa.trans (hbwb.mono Ewa.size)) | (go_at_call 59; refine (l2depth_any _ k c N w h1 (unhide HOK) k t _ (by omega) (by omega) (by omega) B2).mono ?_; rintro e wa ⟨rfl, hbwa⟩; rw [unhide HD]; have Ewa := B2.trans (hbwa.mono B2.size); obtain ⟨q0, q1, q2, q3, qf⟩ := row4' (R2.after hbwa (Nat.le_refl _))))
                          go_ret
                          exact ⟨unhide HX, Ewb⟩
                        · skip
                          have iG : ¬ ((64 : Int) < (G : Int)) := by omega
                          have HG2 := hide (unhide HStep (by intro r hr; simp [rootsOf, it, iu] at hr; rcases hr with rfl | rfl; rw [unhide HD]; omega; rw [unhide HG]; omega))
                          clear HB HStep HRR
                          go_wp2_with (first | (go_at_call 59; refine (l2depth_any _ k c N w h1 (unhide HOK) k u wa (by omega) (by omega) (by omega) Ewa).mono ?_; rintro e wb ⟨rfl, hbwb⟩; rw [unhide HG]; have Ewb := Ewa.trans (hbwb.mono Ewa.size)) | (go_at_call 59; refine (l2depth_any _ k c N w h1 (unhide HOK) k t _ (by omega) (by omega) (by omega) B2).mono ?_; rintro e wa ⟨rfl, hbwa⟩; rw [unhide HD]; have Ewa := B2.trans (hbwa.mono B2.size); obtain ⟨q0, q1, q2, q3, qf⟩ := row4' (R2.after hbwa (Nat.le_refl _))))
                          go_roundw
                          case rel => exact ⟨p + 1, unhide Hlt, by go_num, Ewb, HG2⟩
                          case measure => have := unhide Hlt; simp [intOf]; omega
                      · skip
                        have HG2 := hide (unhide HStep (by intro r hr; simp [rootsOf, it, iu] at hr; rw [hr, unhide HD]; omega))
                        clear HB HStep HRR
                        go_wp2_with (go_at_call 59; refine (l2depth_any _ k c N w h1 (unhide HOK) k t _ (by omega) (by omega) (by omega) B2).mono ?_; rintro e wa ⟨rfl, hbwa⟩; rw [unhide HD]; have Ewa := B2.trans (hbwa.mono B2.size); obtain ⟨q0, q1, q2, q3, qf⟩ := row4' (R2.after hbwa (Nat.le_refl _)))
                        go_roundw
                        case rel => exact ⟨p + 1, unhide Hlt, by go_num, Ewa, HG2⟩
                        case measure => have := unhide Hlt; simp [intOf]; omega
                  · by_cases iu : 0 ≤ grant
                    · skip
                      obtain ⟨⟨hr0u, hr1u⟩, _⟩ := unhide HRR grant (by simp [rootsOf, iu])
                      obtain ⟨u, rfl⟩ : ∃ u : Nat, grant = (u : Int) := ⟨grant.toNat, by omega⟩
                      obtain ⟨G, HG⟩ : ∃ G, Hid (depthF (N.map Nd.kids) k (u : Int) = G) := ⟨_, hide rfl⟩
                      have hlG : G ≤ k + 1 := by rw [← unhide HG]; exact unhide HDl _
                      by_cases hG : 64 < G
                      · skip
                        have iG : (64 : Int) < (G : Int) := by omega
                        have HX := hide (unhide HB (u : Int) (by simp [rootsOf, iu]) (by rw [unhide HG]; omega))
                        clear HB HStep HRR
                        go_wp2_with (go_at_call 59; refine (l2depth_any _ k c N w h1 (unhide HOK) k u _ (by omega) (by omega) (by omega) B2).mono ?_; rintro e wb ⟨rfl, hbwb⟩; rw [unhide HG]; have Ewb := B2.trans (hbwb.mono B2.size))
                        go_ret
                        exact ⟨unhide HX, Ewb⟩
                      · skip
                        have iG : ¬ ((64 : Int) < (G : Int)) := by omega
                        have HG2 := hide (unhide HStep (by intro r hr; simp [rootsOf, it, iu] at hr; rw [hr, unhide HG]; omega))
                        clear HB HStep HRR
                        go_wp2_with (go_at_call 59; refine (l2depth_any _ k c N w h1 (unhide HOK) k u _ (by omega) (by omega) (by omega) B2).mono ?_; rintro e wb ⟨rfl, hbwb⟩; rw [unhide HG]; have Ewb := B2.trans (hbwb.mono B2.size))
                        go_roundw
                        case rel => exact ⟨p + 1, unhide Hlt, by go_num, Ewb, HG2⟩
                        case measure => have := unhide Hlt; simp [intOf]; omega
                    · skip
                      have HG2 := hide (unhide HStep (by intro r hr; simp [rootsOf, it, iu] at hr))
                      clear HB HStep HRR
                      go_wp2_with fail
                      go_roundw
                      case rel => exact ⟨p + 1, unhide Hlt, by go_num, B2, HG2⟩
                      case measure => have := unhide Hlt; simp [intOf]; omega
                · have HD := hide (show ∀ r ∈ L.flatMap rootsOf, depthF (N.map Nd.kids) k r ≤ 64 by
                    have e : L.take p = L := List.take_of_length_le (by rw [unhide HL]; omega)
                    have := unhide Hd
                    rw [e] at this
                    exact this)
                  have HX := hide (show ShapeAns k q N L (.returned (.bool true)) from ⟨true, rfl, ⟨fun _ => ⟨⟨hn4, hm1, hm4⟩, unhide HA, (unhide HVS).2 ⟨unhide HS, unhide HOL, unhide HGd, unhide HD⟩⟩, fun _ => rfl⟩⟩)
                  have ilt : ¬ ((p : Int) < (q : Int)) := by omega
                  clear Hd
                  go_wp2_with fail
                  go_ret
                  exact ⟨unhide HX, B1⟩

end Go.Proofs.YtddpcehgopeklaaGreatDoor

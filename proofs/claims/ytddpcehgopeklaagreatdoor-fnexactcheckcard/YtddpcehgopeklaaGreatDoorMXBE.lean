/-
  Mark, Own0, OwnM, Own, ONA, OWS. Own work.
-/
import Derived.Test.YtddpcehgopeklaaGreatDoorMXAN
import Derived.Test.YtddpcehgopeklaaGreatDoorMXAG
import Derived.Test.YtddpcehgopeklaaGreatDoorMXAL


namespace Go.Proofs.YtddpcehgopeklaaGreatDoor
open Go.RowKit

/-- Outside the blocks lo .. hi - 1 nothing that was there has turned. -/
structure Touch (lo hi : Nat) (w w' : World) : Prop where
  os : w'.os = w.os
  tape : w'.tape = w.tape
  output : w'.output = w.output
  size : w.heap.size ≤ w'.heap.size
  block : ∀ k, k < w.heap.size → (k < lo ∨ hi ≤ k) → w'.heap[k]? = w.heap[k]?

theorem Touch.refl (lo hi : Nat) (w : World) : Touch lo hi w w := ⟨rfl, rfl, rfl, Nat.le_refl _, fun _ _ _ => rfl⟩

theorem Touch.trans {lo hi : Nat} {a b c : World} (h : Touch lo hi a b) (k : Touch lo hi b c) : Touch lo hi a c :=
  ⟨k.os.trans h.os, k.tape.trans h.tape, k.output.trans h.output, Nat.le_trans h.size k.size, fun i hi h' => (k.block i (Nat.lt_of_lt_of_le hi h.size) h').trans (h.block i hi h')⟩

theorem Touch.of_below {lo hi B : Nat} {w w' : World} (h : Below B w w') (hB : w.heap.size ≤ B) : Touch lo hi w w' :=
  ⟨h.os, h.tape, h.output, h.size, fun k hk _ => h.block k (by omega)⟩

theorem Touch.setCell {lo hi : Nat} (w : World) (p : Addr) (u : Value) (h1 : lo ≤ p.block) (h2 : p.block < hi) : Touch lo hi w (w.setCell p u) :=
  ⟨rfl, rfl, rfl, by simp, fun k _ hk => heap_setCell_other w p k u (by omega)⟩

/-- Below what was there: a step that touches the call's own blocks alone. -/
theorem below_touch {B lo hi : Nat} {w w1 w2 : World} (h : Below B w w1) (t : Touch lo hi w1 w2) (hB : B ≤ lo) (hs : B ≤ w1.heap.size) : Below B w w2 :=
  h.trans ⟨t.os, t.tape, t.output, t.size, fun k hk => t.block k (by omega) (.inl (by omega))⟩

/-- A slice of strings of the call's own, in the blocks lo .. hi - 1. -/
structure OwnS (w : World) (lo hi : Nat) (a : Option Addr) (n c : Nat) (ss : List ByteArray) : Prop where
  own : w.ownsRow lo 9 1 (.slice a n c) n (ss.map Value.string)
  lt : ∀ x, a = some x → x.block < hi
  sizes : ∀ j, j < n → (nth ss j).size ≤ maxLen
  top : hi ≤ w.heap.size

theorem OwnS.strs {w : World} {lo hi n c : Nat} {a : Option Addr} {ss : List ByteArray} (h : OwnS w lo hi a n c ss) : Strs w a n c ss := Strs.of_owns h.own h.sizes

theorem OwnS.of {w : World} {lo n c : Nat} {a : Option Addr} {ss : List ByteArray} (h : w.ownsRow lo 9 1 (.slice a n c) n (ss.map Value.string)) (hs : ∀ j, j < n → (nth ss j).size ≤ maxLen) : OwnS w lo w.heap.size a n c ss :=
  ⟨h, fun x hx => by subst hx; exact (h.lt _ rfl).2, hs, Nat.le_refl _⟩

theorem owns_of_block {w w' : World} {lo n c : Nat} {a : Option Addr} {xs : List Value} (h : w.ownsRow lo 9 1 (.slice a n c) n xs) (hb : ∀ x, a = some x → w'.heap[x.block]? = w.heap[x.block]?) : w'.ownsRow lo 9 1 (.slice a n c) n xs := by
  refine ⟨h.1, ?_⟩
  rcases h.2 with h2 | ⟨g, cap, cur, hv, h3, hg, h4⟩
  · exact .inl h2
  · refine .inr ⟨g, cap, cur, hv, h3, ?_, h4⟩
    simp only [Value.slice.injEq] at hv
    rw [← hg]
    exact hb ⟨g, 0, none⟩ hv.1

theorem OwnS.below {w w' : World} {lo hi n c B : Nat} {a : Option Addr} {ss : List ByteArray} (h : OwnS w lo hi a n c ss) (hb : Below B w w') (hB : hi ≤ B) : OwnS w' lo hi a n c ss :=
  ⟨owns_of_block h.own (fun x hx => hb.block _ (by have := h.lt x hx; omega)), h.lt, h.sizes, Nat.le_trans h.top hb.size⟩

theorem OwnS.touch {w w' : World} {lo hi n c lo' hi' : Nat} {a : Option Addr} {ss : List ByteArray} (h : OwnS w lo hi a n c ss) (t : Touch lo' hi' w w') (hd : hi ≤ lo' ∨ hi' ≤ lo) : OwnS w' lo hi a n c ss :=
  ⟨owns_of_block h.own (fun x hx => t.block _ (by have := h.lt x hx; have := h.top; omega) (by
    have h1 := h.lt x hx
    have h2 : lo ≤ x.block := by subst hx; exact (h.own.lt _ rfl).1
    omega)), h.lt, h.sizes, Nat.le_trans h.top t.size⟩

theorem Strs.touch {w w' : World} {lo hi n c B : Nat} {a : Option Addr} {ss : List ByteArray} (h : Strs w a n c ss) (t : Touch lo hi w w') (hB : ∀ x, a = some x → x.block < B) (hlo : B ≤ lo) : Strs w' a n c ss :=
  ⟨h.len, h.cap, h.small, h.sizes, fun j hj => by
    obtain ⟨b, off, ha, hlt, hc⟩ := h.cells j hj
    refine ⟨b, off, ha, Nat.lt_of_lt_of_le hlt t.size, ?_⟩
    rw [← hc]
    exact World.cell?_of_block (t.block b hlt (.inl (by have := hB _ ha; simp at this; omega)))⟩

end Go.Proofs.YtddpcehgopeklaaGreatDoor

namespace Go.Proofs.YtddpcehgopeklaaGreatDoor
open Go.RowKit

/-- marks from k on -/
def marks (k n : Nat) : List ByteArray := (List.range n).map fun j => markS (k + j)

/-- the first i are marked -/
def marked (ss : List ByteArray) (k n i : Nat) : List ByteArray := (List.range n).map fun j => if j < i then markS (k + j) else nth ss j

theorem marked_zero (ss : List ByteArray) (k n : Nat) (h : n = ss.length) : marked ss k n 0 = ss := by
  apply List.ext_getElem
  · simp [marked, h]
  · intro i h1 h2; simp [marked, nth_eq ss i h2]

theorem marked_full (ss : List ByteArray) (k n : Nat) : marked ss k n n = marks k n := by
  apply List.ext_getElem
  · simp [marked, marks]
  · intro i h1 h2
    have : i < n := by simpa [marked] using h1
    simp [marked, marks, this]

theorem marked_set (ss : List ByteArray) (k n i : Nat) : ((marked ss k n i).map Value.string).set i (.string (markS (k + i))) = (marked ss k n (i + 1)).map Value.string := by
  apply List.ext_getElem
  · simp [marked]
  · intro j h1 h2
    rw [List.getElem_set]
    simp only [marked, List.getElem_map, List.getElem_range]
    by_cases e : i = j
    · subst e; simp
    · rw [if_neg e]
      by_cases h : j < i
      · rw [if_pos h, if_pos (by omega)]
      · rw [if_neg h, if_neg (by omega)]

theorem marked_at (ss : List ByteArray) (k n i : Nat) (h : i < n) : ((marked ss k n i).map Value.string)[i]? = some (.string (nth ss i)) := by
  simp [marked, h]

theorem marks_nth (k n j : Nat) (h : j < n) : nth (marks k n) j = markS (k + j) := by
  rw [nth_eq _ j (by simpa [marks] using h)]; simp [marks]

theorem marks_sizes (k n : Nat) (hk : k + n ≤ 35184372088832) : ∀ j, j < n → (nth (marks k n) j).size ≤ maxLen := fun j hj => by
  rw [marks_nth k n j hj]
  have := markS_size (k + j)
  unfold maxLen; omega

set_option maxHeartbeats 1600000 in
theorem markStringS_any (lo hi : Nat) (a : Option Addr) (n c : Nat) (ss : List ByteArray) (k : Nat) (w : World) (h : OwnS w lo hi a n c ss) (hk : k + n ≤ 35184372088832) :
    Calls Tryz.prog 52 #[.slice a n c, .int .i64 k] w fun e w' => e = .returned (.int .i64 ((k : Int) + n)) ∧ OwnS w' lo hi a n c (marks k n) ∧ Touch lo hi w w' := by
  have hlen := h.strs.len
  have Hl := hide hlen
  clear hlen
  go_enter Tryz.func52, Tryz.ntmps52
  go_wp2
  go_loopw [1, 5] (fun q i wr => ∃ j : Nat, j ≤ n ∧ i = .int .i64 j ∧ q = .int .i64 ((k : Int) + j) ∧ wr.ownsRow lo 9 1 (.slice a n c) n ((marked ss k n j).map Value.string) ∧ Touch lo hi w wr) (fun _ i _ => n - (intOf i).toNat)
  case atStart => exact ⟨0, Nat.zero_le _, rfl, by go_num, by rw [marked_zero ss k n (unhide Hl)]; exact h.own, Touch.refl _ _ _⟩
  case round =>
    obtain ⟨j, hj, rfl, rfl, hown, ht⟩ := hrel
    by_cases hlt : j < n
    · obtain ⟨g, hg⟩ : ∃ g, a = some ⟨g, 0, none⟩ := by
        rcases hown.2 with ⟨_, h0⟩ | ⟨g, cap, cur, hv, _⟩
        · omega
        · simp only [Value.slice.injEq] at hv; exact ⟨g, hv.1⟩
      subst hg
      have hgl : lo ≤ g := (hown.lt g rfl).1
      have hgh : g < hi := h.lt _ rfl
      have hgs : g < wr.heap.size := (hown.lt g rfl).2
      have ilt : (j : Int) < (n : Int) := by omega
      go_wp2_with fail
      refine (markText_int _ wr (by omega) (by omega)).mono ?_
      rintro e w1 ⟨rfl, hb1⟩
      rw [show ((k : Int) + (j : Int)).toNat = k + j from by omega]
      have hown1 := owns_of_block (w' := w1) hown (fun x hx => by cases hx; exact hb1.block g hgs)
      have hc1 := (hown1.cellAt j (by omega)).trans (marked_at ss k n j hlt)
      have hf1 := hown1.frozenAt j
      have Hst := hide (hown1.stored j (.string (markS (k + j)))).1
      have ht1 := ht.trans (Touch.of_below (lo := lo) (hi := hi) hb1 (Nat.le_refl _))
      clear hown hown1 hb1 ht
      go_wp2
      go_roundw
      case rel => exact ⟨j + 1, by omega, by go_num, by go_num, by rw [← marked_set]; exact unhide Hst, ht1.trans (Touch.setCell _ _ _ hgl hgh)⟩
      case measure => simp [intOf]; omega
    · have e : j = n := by omega
      subst e
      go_wp2
      go_ret
      rw [marked_full] at hown
      exact ⟨rfl, ⟨hown, h.lt, marks_sizes k j hk, Nat.le_trans h.top ht.size⟩, ht⟩

theorem markStringS_int (lo hi : Nat) (a : Option Addr) (n c : Nat) (ss : List ByteArray) (x : Int) (w : World) (h : OwnS w lo hi a n c ss) (h0 : 0 ≤ x) (hk : x + n ≤ 35184372088832) :
    Calls Tryz.prog 52 #[.slice a n c, .int .i64 x] w fun e w' => e = .returned (.int .i64 (x + n)) ∧ OwnS w' lo hi a n c (marks x.toNat n) ∧ Touch lo hi w w' := by
  obtain ⟨k, rfl⟩ := Int.eq_ofNat_of_zero_le h0
  rw [Int.toNat_natCast]
  exact markStringS_any lo hi a n c ss k w h (by omega)

end Go.Proofs.YtddpcehgopeklaaGreatDoor

namespace Go.Proofs.YtddpcehgopeklaaGreatDoor
open Go.RowKit

set_option maxHeartbeats 1600000 in
theorem heldStringS_any (a : Option Addr) (n c : Nat) (k : Nat) (w : World) (h : Strs w a n c (marks k n)) (hk : k + n ≤ 35184372088832) :
    Calls Tryz.prog 53 #[.slice a n c, .int .i64 k] w fun e w' => e = .returned (.int .i64 ((k : Int) + n)) ∧ Below w.heap.size w w' := by
  go_enter Tryz.func53, Tryz.ntmps53
  go_wp2
  go_loopw [1, 5] (fun q i wr => ∃ j : Nat, j ≤ n ∧ i = .int .i64 j ∧ q = .int .i64 ((k : Int) + j) ∧ Below w.heap.size w wr) (fun _ i _ => n - (intOf i).toNat)
  case atStart => exact ⟨0, Nat.zero_le _, rfl, by go_num, Below.refl _ _⟩
  case round =>
    obtain ⟨j, hj, rfl, rfl, hb⟩ := hrel
    by_cases hlt : j < n
    · obtain ⟨b, off, ha, hbl, hc⟩ := (h.below hb (Nat.le_refl _)).cells j hlt
      rw [marks_nth k n j hlt] at hc
      subst ha
      have ilt : (j : Int) < (n : Int) := by omega
      go_wp2_with fail
      go_region_held3 (fun w' => w'.cell? ⟨b, off + j, none⟩ = some (.string (markS (k + j)))) (go_keep)
        ((go_at_call 51; refine (markText_int _ _ (by omega) (by omega)).mono ?_; rintro e w1 ⟨rfl, hb1⟩; rw [show ((k : Int) + (j : Int)).toNat = k + j from by omega]; have hq := (hb1.cell (p := ⟨b, off + j, none⟩) hbl).trans hc))
      go_wp2
      go_roundw
      case rel => exact ⟨j + 1, by omega, by go_num, by go_num, hb.drew.trans (hb1.mono hb.size)⟩
      case measure => simp [intOf]; omega
    · have e : j = n := by omega
      subst e
      go_wp2
      go_ret
      exact ⟨rfl, hb⟩

theorem heldStringS_int (a : Option Addr) (n c : Nat) (x : Int) (w : World) (h : Strs w a n c (marks x.toNat n)) (h0 : 0 ≤ x) (hk : x + n ≤ 35184372088832) :
    Calls Tryz.prog 53 #[.slice a n c, .int .i64 x] w fun e w' => e = .returned (.int .i64 (x + n)) ∧ Below w.heap.size w w' := by
  obtain ⟨k, rfl⟩ := Int.eq_ofNat_of_zero_le h0
  rw [Int.toNat_natCast] at h
  exact heldStringS_any a n c k w h (by omega)

end Go.Proofs.YtddpcehgopeklaaGreatDoor

namespace Go.Proofs.YtddpcehgopeklaaGreatDoor
open Go.RowKit
set_option linter.unusedVariables false

/-- marks of numbers -/
def marksZ (k n : Nat) : List Int := (List.range n).map fun j => ((k + j : Nat) : Int)

theorem marksZ_len (k n : Nat) : (marksZ k n).length = n := by simp [marksZ]
theorem marksZ_at (k n j : Nat) (h : j < (marksZ k n).length) : (marksZ k n)[j] = ((k + j : Nat) : Int) := by simp [marksZ]

def mixZ (L : List Int) (k j : Nat) : List Int := marksZ k j ++ L.drop j

theorem mixZ_zero (L : List Int) (k : Nat) : mixZ L k 0 = L := by simp [mixZ, marksZ]
theorem mixZ_full (L : List Int) (k : Nat) : mixZ L k L.length = marksZ k L.length := by simp [mixZ]
theorem mixZ_len (L : List Int) (k j : Nat) (h : j ≤ L.length) : (mixZ L k j).length = L.length := by
  rw [mixZ, List.length_append, marksZ_len, List.length_drop]; omega
theorem mixZ_set (L : List Int) (k j : Nat) (h : j < L.length) : (mixZ L k j).set j ((k + j : Nat) : Int) = mixZ L k (j + 1) := by
  rw [mixZ, List.drop_eq_getElem_cons h, List.set_append_right _ _ (by rw [marksZ_len]; exact Nat.le_refl _), marksZ_len, Nat.sub_self, List.set_cons_zero, mixZ]
  have : marksZ k (j + 1) = marksZ k j ++ [((k + j : Nat) : Int)] := by simp [marksZ, List.range_succ]
  rw [this, List.append_assoc]
  rfl

set_option maxRecDepth 100000 in
set_option maxHeartbeats 1600000 in
theorem markIntS_own (lo hi : Nat) (a : Option Addr) (n c : Nat) (L : List Int) (x : Int) (w : World) (h : w.ownsRow lo 3 1 (.slice a n c) n (intsV L)) (hin : ∀ q, (Value.slice a n c).ownBlock = some q → q < hi) (hl : L.length = n) (hx : 0 ≤ x) (hk : x + n ≤ 35184372088832) :
    Calls Tryz.prog 30 #[.slice a n c, .int .i64 x] w fun e w' => e = .returned (.int .i64 (x + n)) ∧ w'.ownsRow lo 3 1 (.slice a n c) n (intsV (marksZ x.toNat n)) ∧ Touch lo hi w w' := by
  obtain ⟨k, rfl⟩ := Int.eq_ofNat_of_zero_le hx
  rw [Int.toNat_natCast]
  have Hl := hide hl
  clear hl
  go_enter Tryz.func30, Tryz.ntmps30
  go_wp2
  go_loopw [1, 5] (fun q i wr => ∃ (j : Nat) (z : Int), j ≤ n ∧ i = .int .i64 j ∧ q = .int .i64 z ∧ z = ((k + j : Nat) : Int) ∧ wr.ownsRow lo 3 1 (.slice a n c) n (intsV (mixZ L k j)) ∧ Touch lo hi w wr) (fun _ i _ => n - (intOf i).toNat)
  case atStart => exact ⟨0, k, Nat.zero_le _, rfl, rfl, by simp, by rw [mixZ_zero]; exact h, Touch.refl _ _ _⟩
  case round =>
    obtain ⟨j, z, hj, rfl, rfl, hz, hown, ht⟩ := hrel
    by_cases hlt : j < n
    · have hjl : j < L.length := by rw [unhide Hl]; exact hlt
      have hlm : (mixZ L k j).length = L.length := mixZ_len L k j (by omega)
      have hjm : j < (mixZ L k j).length := by omega
      have ilt : (j : Int) < (n : Int) := by omega
      have z0 : 0 ≤ z := by omega
      have z1 : z + 1 ≤ 35184372088832 := by omega
      obtain ⟨g, hg⟩ : ∃ g, a = some ⟨g, 0, none⟩ := by
        rcases hown.2 with ⟨_, h0⟩ | ⟨g, cap, cur, hv, _⟩
        · omega
        · simp only [Value.slice.injEq] at hv; exact ⟨g, hv.1⟩
      subst hg
      have hgl := (hown.lt g rfl).1
      have hgh : g < hi := hin g rfl
      have x0 : (intsV (mixZ L k j))[j]? = some (.int .i64 (mixZ L k j)[j]) := by rw [intsV, List.getElem?_map, List.getElem?_eq_getElem hjm]; rfl
      have c0 := (hown.cellAt j (by omega)).trans x0
      have cf := fun i => hown.frozenAt i
      have HO := hide (hown.stored j (.int .i64 z)).1
      have T2 := ht.trans (Touch.setCell (lo := lo) (hi := hi) wr ⟨g, j, none⟩ (.int .i64 z) hgl hgh)
      have Hz := hide hz
      have Hlt := hide hlt
      generalize (mixZ L k j)[j] = y0 at c0
      clear hz hown x0 ht
      go_wp2_with fail
      go_roundw
      case rel =>
        refine ⟨j + 1, z + 1, unhide Hlt, by go_num, by go_num, by have := unhide Hz; omega, ?_, T2⟩
        have hz := unhide Hz
        rw [← mixZ_set L k j hjl, intsV, List.map_set, ← hz]
        exact unhide HO
      case measure => have := unhide Hlt; simp [intOf]; omega
    · have e : j = n := by omega
      subst e
      go_wp2
      go_ret
      have hM : mixZ L k j = marksZ k j := by have := mixZ_full L k; rwa [unhide Hl] at this
      rw [hM] at hown
      exact ⟨by rw [hz]; push_cast; rfl, hown, ht⟩

set_option maxRecDepth 100000 in
set_option maxHeartbeats 1600000 in
theorem heldIntS_any (a : Option Addr) (n c : Nat) (x : Int) (w : World) (h : Ints w a n c (marksZ x.toNat n)) (hx : 0 ≤ x) (hk : x + n ≤ 35184372088832) :
    Calls Tryz.prog 33 #[.slice a n c, .int .i64 x] w fun e w' => e = .returned (.int .i64 (x + n)) ∧ Below w.heap.size w w' := by
  obtain ⟨k, rfl⟩ := Int.eq_ofNat_of_zero_le hx
  rw [Int.toNat_natCast] at h
  have HH := hide h
  have hs := h.small
  clear h
  go_enter Tryz.func33, Tryz.ntmps33
  go_wp2
  go_loopw [1, 5] (fun q i wr => ∃ (j : Nat) (z : Int), j ≤ n ∧ i = .int .i64 j ∧ q = .int .i64 z ∧ z = ((k + j : Nat) : Int) ∧ wr = w) (fun _ i _ => n - (intOf i).toNat)
  case atStart => exact ⟨0, k, Nat.zero_le _, rfl, rfl, by simp, rfl⟩
  case round =>
    obtain ⟨j, z, hj, rfl, rfl, hz, hw⟩ := hrel
    by_cases hlt : j < n
    · have ilt : (j : Int) < (n : Int) := by omega
      have hjm : j < (marksZ k n).length := by rw [marksZ_len]; exact hlt
      have z0 : 0 ≤ z := by omega
      have z1 : z + 1 ≤ 35184372088832 := by omega
      obtain ⟨b, off, rfl, hb, c0⟩ := (unhide HH).cells j hjm
      rw [marksZ_at k n j hjm, ← hz] at c0
      rw [← hw] at c0
      have Hw := hide hw
      have Hz := hide hz
      have Hlt := hide hlt
      clear hz hw hjm
      go_wp2_with fail
      go_roundw
      case rel => exact ⟨j + 1, z + 1, unhide Hlt, by go_num, by go_num, by have := unhide Hz; omega, unhide Hw⟩
      case measure => have := unhide Hlt; simp [intOf]; omega
    · have e : j = n := by omega
      subst e
      have Hw := hide hw
      clear hw
      go_wp2
      go_ret
      exact ⟨by rw [hz]; push_cast; rfl, by rw [unhide Hw]; exact Below.refl _ _⟩

end Go.Proofs.YtddpcehgopeklaaGreatDoor

namespace Go.Proofs.YtddpcehgopeklaaGreatDoor
open Go.RowKit
set_option linter.unusedVariables false

theorem Touch.wide {l h lo hi : Nat} {w w' : World} (t : Touch l h w w') (hd : (l = 0 ∧ h = 0) ∨ (lo ≤ l ∧ h ≤ hi)) : Touch lo hi w w' :=
  ⟨t.os, t.tape, t.output, t.size, fun k hk hd' => t.block k hk (by omega)⟩

/-- a slice of names of the call's own: what marking it may touch -/
theorem ownS_of {w : World} {lo hi m c : Nat} {a : Option Addr} {ss : List ByteArray} (h : w.ownsRow lo 9 1 (.slice a m c) m (ss.map Value.string)) (hs : ∀ s ∈ ss, s.size ≤ maxLen) (hl : ss.length = m) (hb : ∀ q, (Value.slice a m c).ownBlock = some q → q < hi) (hh : hi ≤ w.heap.size) :
    ∃ l u, OwnS w l u a m c ss ∧ ((l = 0 ∧ u = 0) ∨ (lo ≤ l ∧ u ≤ hi ∧ l < u)) ∧ (∀ q, (Value.slice a m c).ownBlock ≠ some q → q < l ∨ u ≤ q) := by
  have hsz : ∀ j, j < m → (nth ss j).size ≤ maxLen := fun j hj => by
    rw [nth_eq _ j (by omega)]; exact hs _ (List.getElem_mem _)
  rcases h.2 with ⟨hv, h0⟩ | ⟨g, cap, cur, hv, hlo, hg, h4⟩
  · simp only [Value.slice.injEq] at hv
    obtain ⟨rfl, rfl, rfl⟩ := hv
    exact ⟨0, 0, ⟨⟨h.1, .inl ⟨rfl, h0⟩⟩, (fun x hx => by cases hx), hsz, Nat.zero_le _⟩, .inl ⟨rfl, rfl⟩, fun q _ => .inr (Nat.zero_le _)⟩
  · have hv' := hv
    simp only [Value.slice.injEq] at hv'
    obtain ⟨rfl, -, rfl⟩ := hv'
    have hgh : g < hi := hb g rfl
    refine ⟨g, g + 1, ⟨⟨h.1, .inr ⟨g, _, cur, rfl, Nat.le_refl _, hg, h4⟩⟩, (fun x hx => by cases hx; exact Nat.lt_succ_self _), hsz, by omega⟩, .inr ⟨hlo, hgh, Nat.lt_succ_self _⟩, fun q hq => ?_⟩
    have : g ≠ q := fun e => hq (by rw [← e]; rfl)
    omega

end Go.Proofs.YtddpcehgopeklaaGreatDoor

/-
  Slices of the call's own: what marks them. Own work.
-/
import Derived.Test.YtecfjbdeiemclaaDoorMark
import Derived.Test.YtecfjbdeiemclaaDoorOwn0
namespace Go.Proofs.YtecfjbdeiemclaaDoor
open Go.RowKit

/-- marks from k on -/
def marks (k n : Nat) : List ByteArray := (List.range n).map fun j => markS (k + j)

/-- the first i are marked -/
def marked (ss : List ByteArray) (k n i : Nat) : List ByteArray := (List.range n).map fun j => if j < i then markS (k + j) else nth ss j

theorem marked_zero (ss : List ByteArray) (k n : Nat) (h : n = ss.length) : marked ss k n 0 = ss := by
  apply List.ext_getElem
  · simp [marked, h]
  · intro i h1 h2; simp [marked, nth_eq ss i h2]

theorem marked_full (ss : List ByteArray) (k n : Nat) : marked ss k n n = marks k n := by
  apply List.ext_getElem
  · simp [marked, marks]
  · intro i h1 h2
    have : i < n := by simpa [marked] using h1
    simp [marked, marks, this]

theorem marked_set (ss : List ByteArray) (k n i : Nat) : ((marked ss k n i).map Value.string).set i (.string (markS (k + i))) = (marked ss k n (i + 1)).map Value.string := by
  apply List.ext_getElem
  · simp [marked]
  · intro j h1 h2
    rw [List.getElem_set]
    simp only [marked, List.getElem_map, List.getElem_range]
    by_cases e : i = j
    · subst e; simp
    · rw [if_neg e]
      by_cases h : j < i
      · rw [if_pos h, if_pos (by omega)]
      · rw [if_neg h, if_neg (by omega)]

theorem marked_at (ss : List ByteArray) (k n i : Nat) (h : i < n) : ((marked ss k n i).map Value.string)[i]? = some (.string (nth ss i)) := by
  simp [marked, h]

theorem marks_nth (k n j : Nat) (h : j < n) : nth (marks k n) j = markS (k + j) := by
  rw [nth_eq _ j (by simpa [marks] using h)]; simp [marks]

theorem marks_sizes (k n : Nat) (hk : k + n ≤ 1073741824) : ∀ j, j < n → (nth (marks k n) j).size ≤ maxLen := fun j hj => by
  rw [marks_nth k n j hj]
  have := markS_size (k + j)
  unfold maxLen; omega

set_option maxHeartbeats 1600000 in
theorem markStringS_any (lo hi : Nat) (a : Option Addr) (n c : Nat) (ss : List ByteArray) (k : Nat) (w : World) (h : OwnS w lo hi a n c ss) (hk : k + n ≤ 1073741824) :
    Calls Tryd.prog 20 #[.slice a n c, .int .i64 k] w fun e w' => e = .returned (.int .i64 ((k : Int) + n)) ∧ OwnS w' lo hi a n c (marks k n) ∧ Touch lo hi w w' := by
  have hlen := h.strs.len
  have Hl := hide hlen
  clear hlen
  go_enter Tryd.func20, Tryd.ntmps20
  go_wp2
  go_loopw [1, 5] (fun q i wr => ∃ j : Nat, j ≤ n ∧ i = .int .i64 j ∧ q = .int .i64 ((k : Int) + j) ∧ wr.ownsRow lo 9 1 (.slice a n c) n ((marked ss k n j).map Value.string) ∧ Touch lo hi w wr) (fun _ i _ => n - (intOf i).toNat)
  case atStart => exact ⟨0, Nat.zero_le _, rfl, by go_num, by rw [marked_zero ss k n (unhide Hl)]; exact h.own, Touch.refl _ _ _⟩
  case round =>
    obtain ⟨j, hj, rfl, rfl, hown, ht⟩ := hrel
    by_cases hlt : j < n
    · obtain ⟨g, hg⟩ : ∃ g, a = some ⟨g, 0, none⟩ := by
        rcases hown.2 with ⟨_, h0⟩ | ⟨g, cap, cur, hv, _⟩
        · omega
        · simp only [Value.slice.injEq] at hv; exact ⟨g, hv.1⟩
      subst hg
      have hgl : lo ≤ g := (hown.lt g rfl).1
      have hgh : g < hi := h.lt _ rfl
      have hgs : g < wr.heap.size := (hown.lt g rfl).2
      have ilt : (j : Int) < (n : Int) := by omega
      go_wp2_with fail
      refine (markText_int _ wr (by omega) (by omega)).mono ?_
      rintro e w1 ⟨rfl, hb1⟩
      rw [show ((k : Int) + (j : Int)).toNat = k + j from by omega]
      have hown1 := owns_of_block (w' := w1) hown (fun x hx => by cases hx; exact hb1.block g hgs)
      have hc1 := (hown1.cellAt j (by omega)).trans (marked_at ss k n j hlt)
      have hf1 := hown1.frozenAt j
      have Hst := hide (hown1.stored j (.string (markS (k + j)))).1
      have ht1 := ht.trans (Touch.of_below (lo := lo) (hi := hi) hb1 (Nat.le_refl _))
      clear hown hown1 hb1 ht
      go_wp2
      go_roundw
      case rel => exact ⟨j + 1, by omega, by go_num, by go_num, by rw [← marked_set]; exact unhide Hst, ht1.trans (Touch.setCell _ _ _ hgl hgh)⟩
      case measure => simp [intOf]; omega
    · have e : j = n := by omega
      subst e
      go_wp2
      go_ret
      rw [marked_full] at hown
      exact ⟨rfl, ⟨hown, h.lt, marks_sizes k j hk, Nat.le_trans h.top ht.size⟩, ht⟩

theorem markStringS_int (lo hi : Nat) (a : Option Addr) (n c : Nat) (ss : List ByteArray) (x : Int) (w : World) (h : OwnS w lo hi a n c ss) (h0 : 0 ≤ x) (hk : x + n ≤ 1073741824) :
    Calls Tryd.prog 20 #[.slice a n c, .int .i64 x] w fun e w' => e = .returned (.int .i64 (x + n)) ∧ OwnS w' lo hi a n c (marks x.toNat n) ∧ Touch lo hi w w' := by
  obtain ⟨k, rfl⟩ := Int.eq_ofNat_of_zero_le h0
  rw [Int.toNat_natCast]
  exact markStringS_any lo hi a n c ss k w h (by omega)

end Go.Proofs.YtecfjbdeiemclaaDoor

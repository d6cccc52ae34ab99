/-
  Clone, Sort, Compact of the library, at a slice of strings of the call's own. Own work.
-/
import Derived.Test.YtnahfogbemfngaaGreatDoorComp
import Derived.Test.YtnahfogbemfngaaGreatDoorOwn0
import Derived.Test.YtnahfogbemfngaaGreatDoorShelf
import Derived.Sort.OwnSorted
namespace Go.Proofs.YtnahfogbemfngaaGreatDoor
open Go.RowKit Go.Lib Go.Sort

theorem clone_any (b off n c : Nat) (ss : List ByteArray) (w : World) (h : Strs w (some ⟨b, off, none⟩) n c ss) (hn : n ≤ 1048576) :
    Calls Tryz.prog 59 #[.slice (some ⟨b, off, none⟩) n c] w fun e w' => ∃ g cx, e = .returned (.slice (some ⟨g, 0, none⟩) n cx) ∧ w'.ownsRow w.heap.size 9 1 (.slice (some ⟨g, 0, none⟩) n cx) n (ss.map Value.string) ∧ Below w.heap.size w w' := by
  refine (Tryz.slices_Clone_string b off n c ss w (by have := h.len; omega) (by omega) (fun j hj => ?_)).mono ?_
  · obtain ⟨b1, off1, ha, _, hc⟩ := h.cells j (by have := h.len; omega)
    simp only [Option.some.injEq, Addr.mk.injEq, and_true] at ha
    obtain ⟨rfl, rfl⟩ := ha
    exact hc
  · rintro e w' ⟨v', rfl, ho, hne, hb⟩
    rw [List.take_of_length_le (by have := h.len; omega)] at ho
    rcases ho.2 with ⟨h0, _⟩ | ⟨g, cap, cur, hv, _⟩
    · exact absurd h0 hne
    · subst hv
      exact ⟨g, cap, rfl, ho, hb⟩

theorem sort_any (base g n c : Nat) (zs : List (List UInt8)) (w : World) (h : w.ownsRow base 9 1 (.slice (some ⟨g, 0, none⟩) n c) n (zs.map encStr)) (hn : n ≤ 1048576) :
    Calls Tryz.prog 60 #[.slice (some ⟨g, 0, none⟩) n c] w fun e w' => e = .returned (.tuple #[]) ∧ w'.ownsRow base 9 1 (.slice (some ⟨g, 0, none⟩) n c) n ((zs.mergeSort fun x y => decide (x ≤ y)).map encStr) ∧ w.grownBy w' (some g) := by
  have hl : zs.length = n := by have := h.1; simpa using this
  subst hl
  rcases h.2 with ⟨h0, _⟩ | ⟨g', cap, cur, hv, hbase, hb, h1, h2, h3, h4⟩
  · cases h0
  · simp only [Value.slice.injEq, Option.some.injEq, Addr.mk.injEq, and_true, true_and] at hv
    obtain ⟨rfl, rfl⟩ := hv
    refine (Tryz.slices_Sort_string g 0 c zs w (holds_of_block hb (by simpa using h4)) (Array.getElem?_eq_some_iff.1 hb).1 (by omega)).mono ?_
    rintro e w' ⟨rfl, q, os, rfl⟩
    exact ⟨rfl, ownsRow_sorted (by simp) hbase hb h1 h2 h3, grownBy_sorted _⟩

theorem take_putCells_le (cur : Array Value) (ts rs : List (List UInt8)) (h : (ts ++ rs).length ≤ cur.size) : (putCells encStr 0 (ts ++ rs).toArray cur).toList.take ts.length = ts.map encStr := by
  have e := take_putCells cur (ts ++ rs) h
  have := congrArg (List.take ts.length) e
  rw [List.take_take, Nat.min_eq_left (by simp)] at this
  rw [this, List.map_append, List.take_left' (by simp)]

theorem compact_len (zs : List (List UInt8)) : (Lib.compact zs).length ≤ zs.length := by
  unfold Lib.compact compactUpTo
  rw [List.length_map]
  exact Nat.le_trans (List.length_filter_le _ _) (by simp)

theorem compact_any (base g n c : Nat) (zs : List (List UInt8)) (w : World) (h : w.ownsRow base 9 1 (.slice (some ⟨g, 0, none⟩) n c) n (zs.map encStr)) (hn : n ≤ 1048576) :
    Calls Tryz.prog 61 #[.slice (some ⟨g, 0, none⟩) n c] w fun e w' => e = .returned (.slice (some ⟨g, 0, none⟩) (Lib.compact zs).length c) ∧ w'.ownsRow base 9 1 (.slice (some ⟨g, 0, none⟩) (Lib.compact zs).length c) (Lib.compact zs).length ((Lib.compact zs).map encStr) ∧ w.grownBy w' (some g) := by
  have hl : zs.length = n := by have := h.1; simpa using this
  subst hl
  rcases h.2 with ⟨h0, _⟩ | ⟨g', cap, cur, hv, hbase, hb, h1, h2, h3, h4⟩
  · cases h0
  · simp only [Value.slice.injEq, Option.some.injEq, Addr.mk.injEq, and_true, true_and] at hv
    obtain ⟨rfl, rfl⟩ := hv
    refine (Tryz.slices_Compact_string g 0 c zs w (holds_of_block hb (by simpa using h4)) (by omega) h1).mono ?_
    rintro e w' ⟨rfl, q, rfl⟩
    have e0 := (grow_empty (putRow encStr (Sort.ahead w q) g 0 (Lib.compact zs ++ List.replicate (zs.length - (Lib.compact zs).length) []).toArray)).symm
    have hlen := compact_len zs
    have hh := heap_sorted (n := q) (os := #[]) (Lib.compact zs ++ List.replicate (zs.length - (Lib.compact zs).length) []).toArray hb
    have hgr := grownBy_sorted (w := w) (g := g) (n := q) (os := #[]) (Lib.compact zs ++ List.replicate (zs.length - (Lib.compact zs).length) []).toArray
    rw [← e0] at hh hgr
    refine ⟨rfl, ⟨by simp, .inr ⟨g, c, _, rfl, hbase, hh, by omega, h2, by simp [putCells, h3], ?_⟩⟩, hgr⟩
    rw [Nat.mul_one]
    exact take_putCells_le cur _ _ (by simp; omega)

end Go.Proofs.YtnahfogbemfngaaGreatDoor

/-
  Mem, PickP, Byte1, MarkT, LawsE, VPR. Own work.
-/
import Derived.Test.YtcehablmloleaaaGreatDoorMXAB
import Derived.WalkSpells
import Derived.WalkLawsBesides
import Derived.Laws.BytesString
import Derived.Deep.RegionHeld3
namespace Go.Proofs.YtcehablmloleaaaGreatDoor
open Go.RowKit

/-- a store into another block -/
theorem Strs.setFar {w : World} {a : Option Addr} {n c : Nat} {ss : List ByteArray} (h : Strs w a n c ss) {p : Addr} (hp : ∀ x, a = some x → p.block ≠ x.block) (u : Value) : Strs (w.setCell p u) a n c ss :=
  ⟨h.len, h.cap, h.small, h.sizes, fun j hj => by
    obtain ⟨b, off, ha, hlt, hc⟩ := h.cells j hj
    refine ⟨b, off, ha, by simpa using hlt, ?_⟩
    rw [← hc]
    exact World.cell?_of_block (heap_setCell_other w p b u (fun e => hp _ ha e.symm))⟩

theorem Strs.drewN {w : World} {a : Option Addr} {n c : Nat} {ss : List ByteArray} (h : Strs w a n c ss) (k : Nat) : Strs (w.drewN k) a n c ss :=
  h.below (below_drewN (Below.refl w.heap.size w) k) (Nat.le_refl _)

end Go.Proofs.YtcehablmloleaaaGreatDoor

namespace Go.Proofs.YtcehablmloleaaaGreatDoor
open Go.RowKit

/-- are the two texts one? -/
def eqS (a b : ByteArray) : Bool := a.toList == b.toList

theorem eqS_iff (a b : ByteArray) : eqS a b = true ↔ a = b := by
  rw [eqS, beq_iff_eq, ByteArray.toList_eq, ByteArray.toList_eq]
  exact ⟨bytes_ext, fun h => by rw [h]⟩

/-- does the text stand in the list? -/
def hasB (ss : List ByteArray) (s : ByteArray) : Bool := ss.any fun x => eqS x s

theorem hasB_iff (ss : List ByteArray) (s : ByteArray) : hasB ss s = true ↔ s ∈ ss := by
  rw [hasB, List.any_eq_true]
  constructor
  · rintro ⟨x, hx, he⟩; rw [eqS_iff] at he; subst he; exact hx
  · intro h; exact ⟨s, h, (eqS_iff _ _).2 rfl⟩

theorem mem_nth (ss : List ByteArray) (s : ByteArray) : s ∈ ss ↔ ∃ j, j < ss.length ∧ nth ss j = s := by
  constructor
  · intro h
    obtain ⟨j, hj, rfl⟩ := List.getElem_of_mem h
    exact ⟨j, hj, nth_eq ss j hj⟩
  · rintro ⟨j, hj, rfl⟩
    rw [nth_eq ss j hj]; exact List.getElem_mem hj

theorem hasB_at (ss : List ByteArray) (s : ByteArray) (j : Nat) (hj : j < ss.length) (h : eqS (nth ss j) s = true) : hasB ss s = true := by
  rw [hasB_iff, mem_nth]; exact ⟨j, hj, (eqS_iff _ _).1 h⟩

theorem hasB_none (ss : List ByteArray) (s : ByteArray) (h : ∀ j, j < ss.length → eqS (nth ss j) s = false) : hasB ss s = false := by
  rw [Bool.eq_false_iff]; intro k; rw [hasB_iff, mem_nth] at k
  obtain ⟨j, hj, e⟩ := k
  have := h j hj
  rw [(eqS_iff _ _).2 e] at this; cases this

theorem take_succ_nth (ss : List ByteArray) (k : Nat) (h : k < ss.length) : ss.take (k + 1) = ss.take k ++ [nth ss k] := by
  rw [nth_eq ss k h, List.take_succ_eq_append_getElem h]

/-- The value owns its row: its form. -/
theorem owns_form {w : World} {base e n : Nat} {v : Value} {xs : List Value} (h : w.ownsRow base e 1 v n xs) : ∃ x c, v = .slice x n c := by
  rcases h.2 with ⟨rfl, rfl⟩ | ⟨g, cap, cur, rfl, _⟩
  · exact ⟨_, _, rfl⟩
  · exact ⟨_, _, rfl⟩

end Go.Proofs.YtcehablmloleaaaGreatDoor

namespace Go.Proofs.YtcehablmloleaaaGreatDoor
open Go.RowKit

def byte1 (x : Int) : ByteArray := ByteArray.empty.push (UInt8.ofNat x.toNat)

theorem byte1_size (x : Int) : (byte1 x).size = 1 := rfl

theorem conv1 (W : World) (x : Int) : (convert 96 9 (.slice (some ⟨W.heap.size, 0, none⟩) 1 1)).run Tryz.prog (W.alloc (.cells #[.int .u8 x] 5)) = .ok (.string (byte1 x)) (W.alloc (.cells #[.int .u8 x] 5)) := by
  rw [run_convert_bytes_string _ _ _ _ _ _ _ Tryz.underlying96 Tryz.underlying5 Tryz.underlying9]
  rw [run_bytesToString _ _ _ _ [x]]
  · rfl
  · have h : (W.alloc (.cells #[.int .u8 x] 5)).cell? ⟨W.heap.size, 0, none⟩ = some (.int .u8 x) := by simp
    simp [loadCells, h, go_sem]

theorem size_app (a b : ByteArray) : (a ++ b).size = a.size + b.size := ByteArray.size_append

end Go.Proofs.YtcehablmloleaaaGreatDoor

namespace Go.Proofs.YtcehablmloleaaaGreatDoor
open Go.RowKit

/-- decimal digits, put ahead of what is there -/
def digs : Nat → Nat → ByteArray → ByteArray
  | 0, _, l => l
  | f + 1, k, l => if k = 0 then l else digs f (k / 10) (byte1 (48 + (k : Int) % 10) ++ l)

theorem digs_zero (f : Nat) (l : ByteArray) : digs f 0 l = l := by cases f <;> simp [digs]

theorem digs_succ (f k : Nat) (l : ByteArray) (h : k ≠ 0) : digs (f + 1) k l = digs f (k / 10) (byte1 (48 + (k : Int) % 10) ++ l) := by simp [digs, h]

theorem digs_len : ∀ (f k : Nat) (l : ByteArray), (digs f k l).size ≤ l.size + k
  | 0, _, _ => by simp [digs]
  | f + 1, k, l => by
    by_cases h : k = 0
    · simp [digs, h]
    · have := digs_len f (k / 10) (byte1 (48 + (k : Int) % 10) ++ l)
      rw [digs_succ f k l h]
      rw [size_app, byte1_size] at this
      omega

def markS (k : Nat) : ByteArray := if k = 0 then ⟨#[109, 48]⟩ else ⟨#[109]⟩ ++ digs (k + 1) k ⟨#[]⟩

theorem markS_size (k : Nat) : (markS k).size ≤ k + 2 := by
  unfold markS
  by_cases h : k = 0
  · simp [h, ByteArray.size]
  · have := digs_len (k + 1) k ⟨#[]⟩
    rw [if_neg h, size_app]
    simp only [ByteArray.size, List.size_toArray, List.length_nil, List.length_cons] at this ⊢
    omega

set_option maxHeartbeats 800000 in
theorem markText_any (k : Nat) (w : World) (hk : k ≤ 35184372088832) :
    Calls Tryz.prog 43 #[.int .i64 k] w fun e w' => e = .returned (.string (markS k)) ∧ Below w.heap.size w w' := by
  by_cases h0 : k = 0
  · subst h0
    go_enter Tryz.func43, Tryz.ntmps43
    go_wp2
    go_ret
    exact ⟨rfl, Below.refl _ _⟩
  · have h1 : (0 : Int) < (k : Int) := by omega
    have Hm := hide (show markS k = ⟨#[109]⟩ ++ digs (k + 1) k ⟨#[]⟩ by rw [markS, if_neg h0])
    have hcv := conv1
    clear h0
    go_enter Tryz.func43, Tryz.ntmps43
    go_wp2
    go_loopw [0, 3] (fun i o wr => ∃ (m f : Nat) (l : ByteArray), i = .int .i64 m ∧ o = .string l ∧ m < f ∧ l.size + m ≤ k ∧ digs f m l = digs (k + 1) k ⟨#[]⟩ ∧ Below w.heap.size w wr) (fun i _ _ => (intOf i).toNat)
    case atStart => exact ⟨k, k + 1, ⟨#[]⟩, rfl, rfl, by omega, by simp [ByteArray.size], rfl, Below.refl _ _⟩
    case round =>
      obtain ⟨m, f, l, rfl, rfl, hmf, hl, hd, hb⟩ := hrel
      have hbs := hb.size
      by_cases hm : m = 0
      · subst hm
        rw [digs_zero] at hd
        have Hd := hide hd
        clear hd
        go_wp2
        go_ret
        exact ⟨by rw [unhide Hm, ← unhide Hd]; rfl, hb⟩
      · have hm' : (0 : Int) < (m : Int) := by omega
        obtain ⟨f', rfl⟩ : ∃ f', f = f' + 1 := ⟨f - 1, by omega⟩
        rw [digs_succ f' m l hm] at hd
        have Hd := hide hd
        clear hd
        have hs1 := byte1_size (48 + (m : Int) % 10)
        go_wp2
        go_roundw
        case rel => exact ⟨m / 10, f', _, by go_num, rfl, by omega, by rw [size_app, byte1_size]; omega, unhide Hd, hb.alloc hbs _⟩
        case measure => simp [intOf]; omega

theorem markText_int (x : Int) (w : World) (h0 : 0 ≤ x) (hk : x ≤ 35184372088832) :
    Calls Tryz.prog 43 #[.int .i64 x] w fun e w' => e = .returned (.string (markS x.toNat)) ∧ Below w.heap.size w w' := by
  obtain ⟨n, rfl⟩ := Int.eq_ofNat_of_zero_le h0
  rw [Int.toNat_natCast]
  exact markText_any n w (by omega)

end Go.Proofs.YtcehablmloleaaaGreatDoor

namespace Go.Proofs.YtcehablmloleaaaGreatDoor
open Go.RowKit

set_option maxHeartbeats 800000 in
theorem eqStringS_same (a a' : Option Addr) (n c c' : Nat) (ss : List ByteArray) (w : World) (h : Strs w a n c ss) (h' : Strs w a' n c' ss) :
    Calls Tryz.prog 70 #[.slice a n c, .slice a' n c'] w fun e w' => e = .returned (.bool true) ∧ Below w.heap.size w w' := by
  have hn : n ≤ 9223372036854775807 := by have := h.cap; have := h.small; unfold maxLen at this; omega
  go_enter Tryz.func70, Tryz.ntmps70
  go_wp2
  go_loopw [5] (fun i wr => ∃ k : Nat, k ≤ n ∧ i = .int .i64 k ∧ Below w.heap.size w wr) (fun i _ => n - (intOf i).toNat)
  case atStart => exact ⟨0, Nat.zero_le _, rfl, Below.refl _ _⟩
  case round =>
    obtain ⟨k, hk, rfl, hb⟩ := hrel
    by_cases hlt : k < n
    · obtain ⟨b, off, ha, _, hc⟩ := (h.below hb (Nat.le_refl _)).cells k hlt
      obtain ⟨b', off', ha', _, hc'⟩ := (h'.below hb (Nat.le_refl _)).cells k hlt
      subst ha
      subst ha'
      have i3 : (k : Int) < (n : Int) := by omega
      go_wp2
      go_quiet (fail)
      go_wp2
      go_roundw
      case rel => exact ⟨k + 1, by omega, by go_num, below_drewN hb _⟩
      case measure => simp [intOf]; omega
    · go_wp2
      go_ret
      exact ⟨rfl, hb⟩

end Go.Proofs.YtcehablmloleaaaGreatDoor

namespace Go.Proofs.YtcehablmloleaaaGreatDoor
open Go.RowKit
set_option linter.unusedVariables false

structure Nd where
  op : Int
  num : Int
  text : ByteArray
  names : List ByteArray
  kids : List Int

structure St where
  kind : Int
  name : ByteArray
  cond : Int
  grant : Int

end Go.Proofs.YtcehablmloleaaaGreatDoor

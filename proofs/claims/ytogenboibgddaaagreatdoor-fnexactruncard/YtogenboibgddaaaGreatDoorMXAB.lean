/-
  JT0, Byte1, MarkT, LawsE, Mark, Own0, OwnM, Own, MPlain, Sent, EvalC, CPlain, Calc1, CTimes. Own work.
-/
import Derived.Test.YtogenboibgddaaaGreatDoorMXAA
import Derived.Test.YtogenboibgddaaaGreatDoorMXAC
import Derived.Laws.BytesString
import Derived.Deep.RegionHeld3
import Derived.WalkKit
import Derived.Test.YtogenboibgddaaaGreatDoorIs
import Derived.WalkSpells
import Derived.WalkLawsBesides
import Derived.Test.YtogenboibgddaaaGreatDoorRows
import Derived.RegionTactic
import Derived.ChangeAlike
import Derived.Deep.QuietTactic
import Derived.BigQuiet
import Derived.Laws.BitsAllLaws
import Derived.WalkSmall
namespace Go.Proofs.YtogenboibgddaaaGreatDoor
open Go.RowKit
set_option linter.unusedVariables false

/-- the type that an operator gives over the types of its kids; 0: they do not fit -/
def tyOp (op : Int) : List Int → Int
  | [a] => if op = 8 ∧ a = 2 then 2 else if op = 9 ∧ a = 1 then 1 else if op = 10 ∧ a = 4 then 2 else 0
  | [a, b] => if (11 ≤ op ∧ op ≤ 15) ∧ a = 2 ∧ b = 2 then 2 else if (16 ≤ op ∧ op ≤ 18) ∧ a = 4 ∧ b = 4 then 4
    else if (op = 19 ∨ op = 20) ∧ a = b then 1 else if (op = 21 ∨ op = 22) ∧ a = 2 ∧ b = 2 then 1 else if op = 23 ∧ a = 3 ∧ b = 4 then 1
    else if op = 24 ∧ a = 4 ∧ b = 4 then 1 else if (op = 25 ∨ op = 26) ∧ a = 1 ∧ b = 1 then 1 else 0
  | [a, b, c] => if a = 1 ∧ b = c then b else 0
  | _ => 0

/-- a type, or none -/
def nz (t : Int) : Option Int := if t = 0 then none else some t

theorem nz_some {t a : Int} (h : nz t = some a) : t = a ∧ a ≠ 0 := by
  unfold nz at h
  split at h
  · cases h
  · cases h; exact ⟨rfl, by assumption⟩

end Go.Proofs.YtogenboibgddaaaGreatDoor

namespace Go.Proofs.YtogenboibgddaaaGreatDoor
open Go.RowKit

def byte1 (x : Int) : ByteArray := ByteArray.empty.push (UInt8.ofNat x.toNat)

theorem byte1_size (x : Int) : (byte1 x).size = 1 := rfl

theorem conv1 (W : World) (x : Int) : (convert 145 9 (.slice (some ⟨W.heap.size, 0, none⟩) 1 1)).run Tryz.prog (W.alloc (.cells #[.int .u8 x] 5)) = .ok (.string (byte1 x)) (W.alloc (.cells #[.int .u8 x] 5)) := by
  rw [run_convert_bytes_string _ _ _ _ _ _ _ Tryz.underlying145 Tryz.underlying5 Tryz.underlying9]
  rw [run_bytesToString _ _ _ _ [x]]
  · rfl
  · have h : (W.alloc (.cells #[.int .u8 x] 5)).cell? ⟨W.heap.size, 0, none⟩ = some (.int .u8 x) := by simp
    simp [loadCells, h, go_sem]

theorem size_app (a b : ByteArray) : (a ++ b).size = a.size + b.size := ByteArray.size_append

end Go.Proofs.YtogenboibgddaaaGreatDoor

namespace Go.Proofs.YtogenboibgddaaaGreatDoor
open Go.RowKit

/-- decimal digits, put ahead of what is there -/
def digs : Nat → Nat → ByteArray → ByteArray
  | 0, _, l => l
  | f + 1, k, l => if k = 0 then l else digs f (k / 10) (byte1 (48 + (k : Int) % 10) ++ l)

theorem digs_zero (f : Nat) (l : ByteArray) : digs f 0 l = l := by cases f <;> simp [digs]

theorem digs_succ (f k : Nat) (l : ByteArray) (h : k ≠ 0) : digs (f + 1) k l = digs f (k / 10) (byte1 (48 + (k : Int) % 10) ++ l) := by simp [digs, h]

theorem digs_len : ∀ (f k : Nat) (l : ByteArray), (digs f k l).size ≤ l.size + k
  | 0, _, _ => by simp [digs]
  | f + 1, k, l => by
    by_cases h : k = 0
    · simp [digs, h]
    · have := digs_len f (k / 10) (byte1 (48 + (k : Int) % 10) ++ l)
      rw [digs_succ f k l h]
      rw [size_app, byte1_size] at this
      omega

def markS (k : Nat) : ByteArray := if k = 0 then ⟨#[109, 48]⟩ else ⟨#[109]⟩ ++ digs (k + 1) k ⟨#[]⟩

theorem markS_size (k : Nat) : (markS k).size ≤ k + 2 := by
  unfold markS
  by_cases h : k = 0
  · simp [h, ByteArray.size]
  · have := digs_len (k + 1) k ⟨#[]⟩
    rw [if_neg h, size_app]
    simp only [ByteArray.size, List.size_toArray, List.length_nil, List.length_cons] at this ⊢
    omega

set_option maxHeartbeats 800000 in
theorem markText_any (k : Nat) (w : World) (hk : k ≤ 35184372088832) :
    Calls Tryz.prog 59 #[.int .i64 k] w fun e w' => e = .returned (.string (markS k)) ∧ Below w.heap.size w w' := by
  by_cases h0 : k = 0
  · subst h0
    go_enter Tryz.func59, Tryz.ntmps59
    go_wp2
    go_ret
    exact ⟨rfl, Below.refl _ _⟩
  · have h1 : (0 : Int) < (k : Int) := by omega
    have Hm := hide (show markS k = ⟨#[109]⟩ ++ digs (k + 1) k ⟨#[]⟩ by rw [markS, if_neg h0])
    have hcv := conv1
    clear h0
    go_enter Tryz.func59, Tryz.ntmps59
    go_wp2
    go_loopw [0, 3] (fun i o wr => ∃ (m f : Nat) (l : ByteArray), i = .int .i64 m ∧ o = .string l ∧ m < f ∧ l.size + m ≤ k ∧ digs f m l = digs (k + 1) k ⟨#[]⟩ ∧ Below w.heap.size w wr) (fun i _ _ => (intOf i).toNat)
    case atStart => exact ⟨k, k + 1, ⟨#[]⟩, rfl, rfl, by omega, by simp [ByteArray.size], rfl, Below.refl _ _⟩
    case round =>
      obtain ⟨m, f, l, rfl, rfl, hmf, hl, hd, hb⟩ := hrel
      have hbs := hb.size
      by_cases hm : m = 0
      · subst hm
        rw [digs_zero] at hd
        have Hd := hide hd
        clear hd
        go_wp2
        go_ret
        exact ⟨by rw [unhide Hm, ← unhide Hd]; rfl, hb⟩
      · have hm' : (0 : Int) < (m : Int) := by omega
        obtain ⟨f', rfl⟩ : ∃ f', f = f' + 1 := ⟨f - 1, by omega⟩
        rw [digs_succ f' m l hm] at hd
        have Hd := hide hd
        clear hd
        have hs1 := byte1_size (48 + (m : Int) % 10)
        go_wp2
        go_roundw
        case rel => exact ⟨m / 10, f', _, by go_num, rfl, by omega, by rw [size_app, byte1_size]; omega, unhide Hd, hb.alloc hbs _⟩
        case measure => simp [intOf]; omega

theorem markText_int (x : Int) (w : World) (h0 : 0 ≤ x) (hk : x ≤ 35184372088832) :
    Calls Tryz.prog 59 #[.int .i64 x] w fun e w' => e = .returned (.string (markS x.toNat)) ∧ Below w.heap.size w w' := by
  obtain ⟨n, rfl⟩ := Int.eq_ofNat_of_zero_le h0
  rw [Int.toNat_natCast]
  exact markText_any n w (by omega)

end Go.Proofs.YtogenboibgddaaaGreatDoor

namespace Go.Proofs.YtogenboibgddaaaGreatDoor
open Go.RowKit

set_option maxHeartbeats 800000 in
theorem eqStringS_same (a a' : Option Addr) (n c c' : Nat) (ss : List ByteArray) (w : World) (h : Strs w a n c ss) (h' : Strs w a' n c' ss) :
    Calls Tryz.prog 32 #[.slice a n c, .slice a' n c'] w fun e w' => e = .returned (.bool true) ∧ Below w.heap.size w w' := by
  have hn : n ≤ 9223372036854775807 := by have := h.cap; have := h.small; unfold maxLen at this; omega
  go_enter Tryz.func32, Tryz.ntmps32
  go_wp2
  go_loopw [5] (fun i wr => ∃ k : Nat, k ≤ n ∧ i = .int .i64 k ∧ Below w.heap.size w wr) (fun i _ => n - (intOf i).toNat)
  case atStart => exact ⟨0, Nat.zero_le _, rfl, Below.refl _ _⟩
  case round =>
    obtain ⟨k, hk, rfl, hb⟩ := hrel
    by_cases hlt : k < n
    · obtain ⟨b, off, ha, _, hc⟩ := (h.below hb (Nat.le_refl _)).cells k hlt
      obtain ⟨b', off', ha', _, hc'⟩ := (h'.below hb (Nat.le_refl _)).cells k hlt
      subst ha
      subst ha'
      have i3 : (k : Int) < (n : Int) := by omega
      go_wp2
      go_quiet (fail)
      go_wp2
      go_roundw
      case rel => exact ⟨k + 1, by omega, by go_num, below_drewN hb _⟩
      case measure => simp [intOf]; omega
    · go_wp2
      go_ret
      exact ⟨rfl, hb⟩

end Go.Proofs.YtogenboibgddaaaGreatDoor



namespace Go.Proofs.YtogenboibgddaaaGreatDoor
open Go.RowKit

/-- Outside the blocks lo .. hi - 1 nothing that was there has turned. -/
structure Touch (lo hi : Nat) (w w' : World) : Prop where
  os : w'.os = w.os
  tape : w'.tape = w.tape
  output : w'.output = w.output
  size : w.heap.size ≤ w'.heap.size
  block : ∀ k, k < w.heap.size → (k < lo ∨ hi ≤ k) → w'.heap[k]? = w.heap[k]?

theorem Touch.refl (lo hi : Nat) (w : World) : Touch lo hi w w := ⟨rfl, rfl, rfl, Nat.le_refl _, fun _ _ _ => rfl⟩

theorem Touch.trans {lo hi : Nat} {a b c : World} (h : Touch lo hi a b) (k : Touch lo hi b c) : Touch lo hi a c :=
  ⟨k.os.trans h.os, k.tape.trans h.tape, k.output.trans h.output, Nat.le_trans h.size k.size, fun i hi h' => (k.block i (Nat.lt_of_lt_of_le hi h.size) h').trans (h.block i hi h')⟩

theorem Touch.of_below {lo hi B : Nat} {w w' : World} (h : Below B w w') (hB : w.heap.size ≤ B) : Touch lo hi w w' :=
  ⟨h.os, h.tape, h.output, h.size, fun k hk _ => h.block k (by omega)⟩

theorem Touch.setCell {lo hi : Nat} (w : World) (p : Addr) (u : Value) (h1 : lo ≤ p.block) (h2 : p.block < hi) : Touch lo hi w (w.setCell p u) :=
  ⟨rfl, rfl, rfl, by simp, fun k _ hk => heap_setCell_other w p k u (by omega)⟩

/-- Below what was there: a step that touches the call's own blocks alone. -/
theorem below_touch {B lo hi : Nat} {w w1 w2 : World} (h : Below B w w1) (t : Touch lo hi w1 w2) (hB : B ≤ lo) (hs : B ≤ w1.heap.size) : Below B w w2 :=
  h.trans ⟨t.os, t.tape, t.output, t.size, fun k hk => t.block k (by omega) (.inl (by omega))⟩

/-- A slice of strings of the call's own, in the blocks lo .. hi - 1. -/
structure OwnS (w : World) (lo hi : Nat) (a : Option Addr) (n c : Nat) (ss : List ByteArray) : Prop where
  own : w.ownsRow lo 9 1 (.slice a n c) n (ss.map Value.string)
  lt : ∀ x, a = some x → x.block < hi
  sizes : ∀ j, j < n → (nth ss j).size ≤ maxLen
  top : hi ≤ w.heap.size

theorem OwnS.strs {w : World} {lo hi n c : Nat} {a : Option Addr} {ss : List ByteArray} (h : OwnS w lo hi a n c ss) : Strs w a n c ss := Strs.of_owns h.own h.sizes

theorem OwnS.of {w : World} {lo n c : Nat} {a : Option Addr} {ss : List ByteArray} (h : w.ownsRow lo 9 1 (.slice a n c) n (ss.map Value.string)) (hs : ∀ j, j < n → (nth ss j).size ≤ maxLen) : OwnS w lo w.heap.size a n c ss :=
  ⟨h, fun x hx => by subst hx; exact (h.lt _ rfl).2, hs, Nat.le_refl _⟩

theorem owns_of_block {w w' : World} {lo n c : Nat} {a : Option Addr} {xs : List Value} (h : w.ownsRow lo 9 1 (.slice a n c) n xs) (hb : ∀ x, a = some x → w'.heap[x.block]? = w.heap[x.block]?) : w'.ownsRow lo 9 1 (.slice a n c) n xs := by
  refine ⟨h.1, ?_⟩
  rcases h.2 with h2 | ⟨g, cap, cur, hv, h3, hg, h4⟩
  · exact .inl h2
  · refine .inr ⟨g, cap, cur, hv, h3, ?_, h4⟩
    simp only [Value.slice.injEq] at hv
    rw [← hg]
    exact hb ⟨g, 0, none⟩ hv.1

theorem OwnS.below {w w' : World} {lo hi n c B : Nat} {a : Option Addr} {ss : List ByteArray} (h : OwnS w lo hi a n c ss) (hb : Below B w w') (hB : hi ≤ B) : OwnS w' lo hi a n c ss :=
  ⟨owns_of_block h.own (fun x hx => hb.block _ (by have := h.lt x hx; omega)), h.lt, h.sizes, Nat.le_trans h.top hb.size⟩

theorem OwnS.touch {w w' : World} {lo hi n c lo' hi' : Nat} {a : Option Addr} {ss : List ByteArray} (h : OwnS w lo hi a n c ss) (t : Touch lo' hi' w w') (hd : hi ≤ lo' ∨ hi' ≤ lo) : OwnS w' lo hi a n c ss :=
  ⟨owns_of_block h.own (fun x hx => t.block _ (by have := h.lt x hx; have := h.top; omega) (by
    have h1 := h.lt x hx
    have h2 : lo ≤ x.block := by subst hx; exact (h.own.lt _ rfl).1
    omega)), h.lt, h.sizes, Nat.le_trans h.top t.size⟩

theorem Strs.touch {w w' : World} {lo hi n c B : Nat} {a : Option Addr} {ss : List ByteArray} (h : Strs w a n c ss) (t : Touch lo hi w w') (hB : ∀ x, a = some x → x.block < B) (hlo : B ≤ lo) : Strs w' a n c ss :=
  ⟨h.len, h.cap, h.small, h.sizes, fun j hj => by
    obtain ⟨b, off, ha, hlt, hc⟩ := h.cells j hj
    refine ⟨b, off, ha, Nat.lt_of_lt_of_le hlt t.size, ?_⟩
    rw [← hc]
    exact World.cell?_of_block (t.block b hlt (.inl (by have := hB _ ha; simp at this; omega)))⟩

theorem owns_mono {w : World} {base base' e n : Nat} {v : Value} {xs : List Value} (h : w.ownsRow base e 1 v n xs) (hb : base' ≤ base) : w.ownsRow base' e 1 v n xs := by
  refine ⟨h.1, ?_⟩
  rcases h.2 with h2 | ⟨g, cap, cur, hv, h3, h4⟩
  · exact .inl h2
  · exact .inr ⟨g, cap, cur, hv, Nat.le_trans hb h3, h4⟩

end Go.Proofs.YtogenboibgddaaaGreatDoor

namespace Go.Proofs.YtogenboibgddaaaGreatDoor
open Go.RowKit

/-- marks from k on -/
def marks (k n : Nat) : List ByteArray := (List.range n).map fun j => markS (k + j)

/-- the first i are marked -/
def marked (ss : List ByteArray) (k n i : Nat) : List ByteArray := (List.range n).map fun j => if j < i then markS (k + j) else nth ss j

theorem marked_zero (ss : List ByteArray) (k n : Nat) (h : n = ss.length) : marked ss k n 0 = ss := by
  apply List.ext_getElem
  · simp [marked, h]
  · intro i h1 h2; simp [marked, nth_eq ss i h2]

theorem marked_full (ss : List ByteArray) (k n : Nat) : marked ss k n n = marks k n := by
  apply List.ext_getElem
  · simp [marked, marks]
  · intro i h1 h2
    have : i < n := by simpa [marked] using h1
    simp [marked, marks, this]

theorem marked_set (ss : List ByteArray) (k n i : Nat) : ((marked ss k n i).map Value.string).set i (.string (markS (k + i))) = (marked ss k n (i + 1)).map Value.string := by
  apply List.ext_getElem
  · simp [marked]
  · intro j h1 h2
    rw [List.getElem_set]
    simp only [marked, List.getElem_map, List.getElem_range]
    by_cases e : i = j
    · subst e; simp
    · rw [if_neg e]
      by_cases h : j < i
      · rw [if_pos h, if_pos (by omega)]
      · rw [if_neg h, if_neg (by omega)]

theorem marked_at (ss : List ByteArray) (k n i : Nat) (h : i < n) : ((marked ss k n i).map Value.string)[i]? = some (.string (nth ss i)) := by
  simp [marked, h]

theorem marks_nth (k n j : Nat) (h : j < n) : nth (marks k n) j = markS (k + j) := by
  rw [nth_eq _ j (by simpa [marks] using h)]; simp [marks]

theorem marks_sizes (k n : Nat) (hk : k + n ≤ 35184372088832) : ∀ j, j < n → (nth (marks k n) j).size ≤ maxLen := fun j hj => by
  rw [marks_nth k n j hj]
  have := markS_size (k + j)
  unfold maxLen; omega

set_option maxHeartbeats 1600000 in
theorem markStringS_any (lo hi : Nat) (a : Option Addr) (n c : Nat) (ss : List ByteArray) (k : Nat) (w : World) (h : OwnS w lo hi a n c ss) (hk : k + n ≤ 35184372088832) :
    Calls Tryz.prog 35 #[.slice a n c, .int .i64 k] w fun e w' => e = .returned (.int .i64 ((k : Int) + n)) ∧ OwnS w' lo hi a n c (marks k n) ∧ Touch lo hi w w' := by
  have hlen := h.strs.len
  have Hl := hide hlen
  clear hlen
  go_enter Tryz.func35, Tryz.ntmps35
  go_wp2
  go_loopw [1, 5] (fun q i wr => ∃ j : Nat, j ≤ n ∧ i = .int .i64 j ∧ q = .int .i64 ((k : Int) + j) ∧ wr.ownsRow lo 9 1 (.slice a n c) n ((marked ss k n j).map Value.string) ∧ Touch lo hi w wr) (fun _ i _ => n - (intOf i).toNat)
  case atStart => exact ⟨0, Nat.zero_le _, rfl, by go_num, by rw [marked_zero ss k n (unhide Hl)]; exact h.own, Touch.refl _ _ _⟩
  case round =>
    obtain ⟨j, hj, rfl, rfl, hown, ht⟩ := hrel
    by_cases hlt : j < n
    · obtain ⟨g, hg⟩ : ∃ g, a = some ⟨g, 0, none⟩ := by
        rcases hown.2 with ⟨_, h0⟩ | ⟨g, cap, cur, hv, _⟩
        · omega
        · simp only [Value.slice.injEq] at hv; exact ⟨g, hv.1⟩
      subst hg
      have hgl : lo ≤ g := (hown.lt g rfl).1
      have hgh : g < hi := h.lt _ rfl
      have hgs : g < wr.heap.size := (hown.lt g rfl).2
      have ilt : (j : Int) < (n : Int) := by omega
      go_wp2_with fail
      refine (markText_int _ wr (by omega) (by omega)).mono ?_
      rintro e w1 ⟨rfl, hb1⟩
      rw [show ((k : Int) + (j : Int)).toNat = k + j from by omega]
      have hown1 := owns_of_block (w' := w1) hown (fun x hx => by cases hx; exact hb1.block g hgs)
      have hc1 := (hown1.cellAt j (by omega)).trans (marked_at ss k n j hlt)
      have hf1 := hown1.frozenAt j
      have Hst := hide (hown1.stored j (.string (markS (k + j)))).1
      have ht1 := ht.trans (Touch.of_below (lo := lo) (hi := hi) hb1 (Nat.le_refl _))
      clear hown hown1 hb1 ht
      go_wp2
      go_roundw
      case rel => exact ⟨j + 1, by omega, by go_num, by go_num, by rw [← marked_set]; exact unhide Hst, ht1.trans (Touch.setCell _ _ _ hgl hgh)⟩
      case measure => simp [intOf]; omega
    · have e : j = n := by omega
      subst e
      go_wp2
      go_ret
      rw [marked_full] at hown
      exact ⟨rfl, ⟨hown, h.lt, marks_sizes k j hk, Nat.le_trans h.top ht.size⟩, ht⟩

theorem markStringS_int (lo hi : Nat) (a : Option Addr) (n c : Nat) (ss : List ByteArray) (x : Int) (w : World) (h : OwnS w lo hi a n c ss) (h0 : 0 ≤ x) (hk : x + n ≤ 35184372088832) :
    Calls Tryz.prog 35 #[.slice a n c, .int .i64 x] w fun e w' => e = .returned (.int .i64 (x + n)) ∧ OwnS w' lo hi a n c (marks x.toNat n) ∧ Touch lo hi w w' := by
  obtain ⟨k, rfl⟩ := Int.eq_ofNat_of_zero_le h0
  rw [Int.toNat_natCast]
  exact markStringS_any lo hi a n c ss k w h (by omega)

end Go.Proofs.YtogenboibgddaaaGreatDoor

namespace Go.Proofs.YtogenboibgddaaaGreatDoor
open Go.RowKit

set_option maxHeartbeats 1600000 in
theorem heldStringS_any (a : Option Addr) (n c : Nat) (k : Nat) (w : World) (h : Strs w a n c (marks k n)) (hk : k + n ≤ 35184372088832) :
    Calls Tryz.prog 60 #[.slice a n c, .int .i64 k] w fun e w' => e = .returned (.int .i64 ((k : Int) + n)) ∧ Below w.heap.size w w' := by
  go_enter Tryz.func60, Tryz.ntmps60
  go_wp2
  go_loopw [1, 5] (fun q i wr => ∃ j : Nat, j ≤ n ∧ i = .int .i64 j ∧ q = .int .i64 ((k : Int) + j) ∧ Below w.heap.size w wr) (fun _ i _ => n - (intOf i).toNat)
  case atStart => exact ⟨0, Nat.zero_le _, rfl, by go_num, Below.refl _ _⟩
  case round =>
    obtain ⟨j, hj, rfl, rfl, hb⟩ := hrel
    by_cases hlt : j < n
    · obtain ⟨b, off, ha, hbl, hc⟩ := (h.below hb (Nat.le_refl _)).cells j hlt
      rw [marks_nth k n j hlt] at hc
      subst ha
      have ilt : (j : Int) < (n : Int) := by omega
      go_wp2_with fail
      go_region_held3 (fun w' => w'.cell? ⟨b, off + j, none⟩ = some (.string (markS (k + j)))) (go_keep)
        ((go_at_call 59; refine (markText_int _ _ (by omega) (by omega)).mono ?_; rintro e w1 ⟨rfl, hb1⟩; rw [show ((k : Int) + (j : Int)).toNat = k + j from by omega]; have hq := (hb1.cell (p := ⟨b, off + j, none⟩) hbl).trans hc))
      go_wp2
      go_roundw
      case rel => exact ⟨j + 1, by omega, by go_num, by go_num, hb.drew.trans (hb1.mono hb.size)⟩
      case measure => simp [intOf]; omega
    · have e : j = n := by omega
      subst e
      go_wp2
      go_ret
      exact ⟨rfl, hb⟩

theorem heldStringS_int (a : Option Addr) (n c : Nat) (x : Int) (w : World) (h : Strs w a n c (marks x.toNat n)) (h0 : 0 ≤ x) (hk : x + n ≤ 35184372088832) :
    Calls Tryz.prog 60 #[.slice a n c, .int .i64 x] w fun e w' => e = .returned (.int .i64 (x + n)) ∧ Below w.heap.size w w' := by
  obtain ⟨k, rfl⟩ := Int.eq_ofNat_of_zero_le h0
  rw [Int.toNat_natCast] at h
  exact heldStringS_any a n c k w h (by omega)

end Go.Proofs.YtogenboibgddaaaGreatDoor

namespace Go.Proofs.YtogenboibgddaaaGreatDoor
open Go.RowKit

/-- where a merge stands -/
structure MInv (ss tt : List ByteArray) (i j : Nat) : Prop where
  i_le : i ≤ ss.length
  j_le : j ≤ tt.length
  A : ∀ p q, p < i → j ≤ q → q < tt.length → sl (nth ss p) (nth tt q) = true
  B : ∀ p q, q < j → i ≤ p → p < ss.length → sl (nth tt q) (nth ss p) = true

theorem MInv.start (ss tt : List ByteArray) : MInv ss tt 0 0 := ⟨Nat.zero_le _, Nat.zero_le _, fun p q h => by omega, fun p q h => by omega⟩

variable {ss tt : List ByteArray} {i j : Nat}

theorem ne_of_sl {a b : ByteArray} (h : sl a b = true) : eqS b a = false := by
  rw [Bool.eq_false_iff]; intro k; rw [eqS_iff] at k; subst k; rw [sl_irrefl] at h; cases h

theorem ne_of_sl' {a b : ByteArray} (h : sl a b = true) : eqS a b = false := by
  rw [Bool.eq_false_iff]; intro k; rw [eqS_iff] at k; subst k; rw [sl_irrefl] at h; cases h

theorem rise_le (hr : risB tt = true) {p q : Nat} (hpq : p ≤ q) (hq : q < tt.length) {x : ByteArray} (h : sl x (nth tt p) = true) : sl x (nth tt q) = true := by
  by_cases e : p = q
  · subst e; exact h
  · exact sl_trans h ((risB_iff tt).1 hr p q (by omega) hq)

/-- the left one comes next -/
theorem MInv.left (h : MInv ss tt i j) (ht : risB tt = true) (hi : i < ss.length) (hc : j < tt.length → sl (nth ss i) (nth tt j) = true) : MInv ss tt (i + 1) j ∧ hasB tt (nth ss i) = false := by
  have hA : ∀ q, j ≤ q → q < tt.length → sl (nth ss i) (nth tt q) = true := fun q hq hq' => rise_le ht hq hq' (hc (by omega))
  refine ⟨⟨by omega, h.j_le, fun p q hp hq hq' => ?_, fun p q hq hp hp' => h.B p q hq (by omega) hp'⟩, hasB_none _ _ fun q hq => ?_⟩
  · by_cases e : p = i
    · subst e; exact hA q hq hq'
    · exact h.A p q (by omega) hq hq'
  · by_cases e : q < j
    · exact ne_of_sl' (h.B i q e (Nat.le_refl _) hi)
    · exact ne_of_sl (hA q (by omega) hq)

/-- the right one comes next -/
theorem MInv.right (h : MInv ss tt i j) (hs : risB ss = true) (hj : j < tt.length) (hc : i < ss.length → sl (nth tt j) (nth ss i) = true) : MInv ss tt i (j + 1) ∧ hasB ss (nth tt j) = false := by
  have hB : ∀ p, i ≤ p → p < ss.length → sl (nth tt j) (nth ss p) = true := fun p hp hp' => rise_le hs hp hp' (hc (by omega))
  refine ⟨⟨h.i_le, by omega, fun p q hp hq hq' => h.A p q hp (by omega) hq', fun p q hq hp hp' => ?_⟩, hasB_none _ _ fun p hp => ?_⟩
  · by_cases e : q = j
    · subst e; exact hB p hp hp'
    · exact h.B p q (by omega) hp hp'
  · by_cases e : p < i
    · exact ne_of_sl' (h.A p j e (Nat.le_refl _) hj)
    · exact ne_of_sl (hB p (by omega) hp)

/-- the two are one -/
theorem MInv.both (h : MInv ss tt i j) (hs : risB ss = true) (ht : risB tt = true) (hi : i < ss.length) (hj : j < tt.length) (h1 : sl (nth ss i) (nth tt j) = false) (h2 : sl (nth tt j) (nth ss i) = false) :
    MInv ss tt (i + 1) (j + 1) ∧ hasB tt (nth ss i) = true ∧ nth ss i = nth tt j := by
  have e := sl_tri _ _ h1 h2
  refine ⟨⟨by omega, by omega, fun p q hp hq hq' => ?_, fun p q hq hp hp' => ?_⟩, ?_, e⟩
  · by_cases k : p = i
    · subst k; rw [e]; exact (risB_iff tt).1 ht j q (by omega) hq'
    · exact h.A p q (by omega) (by omega) hq'
  · by_cases k : q = j
    · subst k; rw [← e]; exact (risB_iff ss).1 hs i p (by omega) hp'
    · exact h.B p q (by omega) (by omega) hp'
  · exact hasB_at _ _ j hj ((eqS_iff _ _).2 e.symm)

/-- What has been kept: by 'onLeftOnly', 'onBothSides', 'onAnySide'. -/
structure KL (ss tt : List ByteArray) (i j : Nat) (K : List ByteArray) : Prop where
  out : K = pick (ss.take i) tt false
structure KB (ss tt : List ByteArray) (i j : Nat) (K : List ByteArray) : Prop where
  out : K = pick (ss.take i) tt true
structure KA (ss tt : List ByteArray) (i j : Nat) (K : List ByteArray) : Prop where
  rise : risB K = true
  mem : ∀ x, x ∈ K ↔ x ∈ ss.take i ∨ x ∈ tt.take j

theorem KL.start : KL ss tt 0 0 [] := ⟨rfl⟩
theorem KB.start : KB ss tt 0 0 [] := ⟨rfl⟩
theorem KA.start : KA ss tt 0 0 [] := ⟨by rfl, by simp⟩

variable {K : List ByteArray}

theorem KL.left (k : KL ss tt i j K) (h : MInv ss tt i j) (ht : risB tt = true) (hi : i < ss.length) (hc : j < tt.length → sl (nth ss i) (nth tt j) = true) : KL ss tt (i + 1) j (K ++ [nth ss i]) :=
  ⟨by rw [pick_yes ss tt false i hi (by rw [(h.left ht hi hc).2]; rfl), k.out]⟩
theorem KL.right (k : KL ss tt i j K) : KL ss tt i (j + 1) K := ⟨k.out⟩
theorem KL.both (k : KL ss tt i j K) (h : MInv ss tt i j) (hs : risB ss = true) (ht : risB tt = true) (hi : i < ss.length) (hj : j < tt.length) (h1 : sl (nth ss i) (nth tt j) = false) (h2 : sl (nth tt j) (nth ss i) = false) : KL ss tt (i + 1) (j + 1) K :=
  ⟨by rw [pick_no ss tt false i hi (by rw [(h.both hs ht hi hj h1 h2).2.1]; rfl), k.out]⟩
theorem KL.last (k : KL ss tt ss.length j K) : K = pick ss tt false := by rw [k.out, List.take_length]

theorem KB.left (k : KB ss tt i j K) (h : MInv ss tt i j) (ht : risB tt = true) (hi : i < ss.length) (hc : j < tt.length → sl (nth ss i) (nth tt j) = true) : KB ss tt (i + 1) j K :=
  ⟨by rw [pick_no ss tt true i hi (by rw [(h.left ht hi hc).2]; rfl), k.out]⟩
theorem KB.right (k : KB ss tt i j K) : KB ss tt i (j + 1) K := ⟨k.out⟩
theorem KB.both (k : KB ss tt i j K) (h : MInv ss tt i j) (hs : risB ss = true) (ht : risB tt = true) (hi : i < ss.length) (hj : j < tt.length) (h1 : sl (nth ss i) (nth tt j) = false) (h2 : sl (nth tt j) (nth ss i) = false) : KB ss tt (i + 1) (j + 1) (K ++ [nth ss i]) :=
  ⟨by rw [pick_yes ss tt true i hi (by rw [(h.both hs ht hi hj h1 h2).2.1]; rfl), k.out]⟩
theorem KB.last (k : KB ss tt ss.length j K) : K = pick ss tt true := by rw [k.out, List.take_length]

theorem risB_snoc (x : ByteArray) (h : risB K = true) (hx : ∀ y ∈ K, sl y x = true) : risB (K ++ [x]) = true := by
  rw [risB, decide_eq_true_eq] at *
  rw [List.pairwise_append]
  refine ⟨h, by simp, fun a ha b hb => ?_⟩
  simp only [List.mem_singleton] at hb
  subst hb; exact hx a ha

theorem mem_take_nth (x : ByteArray) (h : x ∈ ss.take i) : ∃ p, p < i ∧ p < ss.length ∧ nth ss p = x := by
  obtain ⟨p, hp, e⟩ := (mem_nth _ _).1 h
  have hl : (ss.take i).length ≤ i := List.length_take_le _ _
  have hl2 : (ss.take i).length ≤ ss.length := by simp; omega
  refine ⟨p, by omega, by omega, ?_⟩
  rw [← e, nth_eq _ p hp, nth_eq _ p (by omega), List.getElem_take]

theorem KA.left (k : KA ss tt i j K) (h : MInv ss tt i j) (hs : risB ss = true) (hi : i < ss.length) : KA ss tt (i + 1) j (K ++ [nth ss i]) :=
  ⟨risB_snoc _ k.rise fun y hy => by
    rcases (k.mem y).1 hy with hy | hy
    · obtain ⟨p, hp, hp', rfl⟩ := mem_take_nth y hy
      exact (risB_iff ss).1 hs p i hp hi
    · obtain ⟨q, hq, hq', rfl⟩ := mem_take_nth y hy
      exact h.B i q hq (Nat.le_refl _) hi,
  fun x => by rw [List.mem_append, k.mem, take_succ_nth ss i hi, List.mem_append]; simp only [List.mem_singleton]; constructor <;> intro h <;> (rcases h with (h | h) | h <;> simp [h])⟩

theorem KA.right (k : KA ss tt i j K) (h : MInv ss tt i j) (ht : risB tt = true) (hj : j < tt.length) : KA ss tt i (j + 1) (K ++ [nth tt j]) :=
  ⟨risB_snoc _ k.rise fun y hy => by
    rcases (k.mem y).1 hy with hy | hy
    · obtain ⟨p, hp, hp', rfl⟩ := mem_take_nth y hy
      exact h.A p j hp (Nat.le_refl _) hj
    · obtain ⟨q, hq, hq', rfl⟩ := mem_take_nth y hy
      exact (risB_iff tt).1 ht q j hq hj,
  fun x => by rw [List.mem_append, k.mem, take_succ_nth tt j hj, List.mem_append]; simp only [List.mem_singleton]; constructor <;> intro h <;> (first | (rcases h with (h | h) | h <;> simp [h]) | (rcases h with h | h | h <;> simp [h]))⟩

theorem KA.both (k : KA ss tt i j K) (h : MInv ss tt i j) (hs : risB ss = true) (hi : i < ss.length) (hj : j < tt.length) (h1 : sl (nth ss i) (nth tt j) = false) (h2 : sl (nth tt j) (nth ss i) = false) : KA ss tt (i + 1) (j + 1) (K ++ [nth ss i]) := by
  have e := sl_tri _ _ h1 h2
  have k' := k.left h hs hi
  refine ⟨k'.rise, fun x => ?_⟩
  rw [k'.mem, take_succ_nth tt j hj, List.mem_append, take_succ_nth ss i hi, List.mem_append, e]
  simp only [List.mem_singleton]
  constructor <;> intro h
  · rcases h with (h | h) | h <;> simp [h]
  · rcases h with (h | h) | (h | h) <;> simp [h]

end Go.Proofs.YtogenboibgddaaaGreatDoor

namespace Go.Proofs.YtogenboibgddaaaGreatDoor
open Go.RowKit

/-- What the program's four sentinels are, in memory. -/
structure Sent (w : World) (aS aO aZ aW : Addr) : Prop where
  g0 : w.cell? ⟨6, 0, none⟩ = some (.iface 216 (.pointer (some aS)))
  g1 : w.cell? ⟨0, 0, none⟩ = some (.iface 216 (.pointer (some aO)))
  g2 : w.cell? ⟨1, 0, none⟩ = some (.iface 216 (.pointer (some aZ)))
  g3 : w.cell? ⟨2, 0, none⟩ = some (.iface 216 (.pointer (some aW)))
  big : 7 ≤ w.heap.size
  rS : ∃ c t, w.heap[aS.block]? = some (.cells c t (0, 0))
  rO : ∃ c t, w.heap[aO.block]? = some (.cells c t (0, 0))
  rZ : ∃ c t, w.heap[aZ.block]? = some (.cells c t (0, 0))
  rW : ∃ c t, w.heap[aW.block]? = some (.cells c t (0, 0))
  nSO : aS ≠ aO
  nSZ : aS ≠ aZ
  nSW : aS ≠ aW
  nOZ : aO ≠ aZ
  nOW : aO ≠ aW
  nZW : aZ ≠ aW

theorem row_below {w w' : World} {B : Nat} {a : Addr} (h : ∃ c t, w.heap[a.block]? = some (.cells c t (0, 0))) (hb : Below B w w') (hB : w.heap.size ≤ B) : ∃ c t, w'.heap[a.block]? = some (.cells c t (0, 0)) := by
  obtain ⟨c, t, h⟩ := h
  have hlt : a.block < w.heap.size := (Array.getElem?_eq_some_iff.1 h).1
  exact ⟨c, t, (hb.block _ (by omega)).trans h⟩

theorem Sent.below {w w' : World} {B : Nat} {aS aO aZ aW : Addr} (h : Sent w aS aO aZ aW) (hb : Below B w w') (hB : w.heap.size ≤ B) : Sent w' aS aO aZ aW where
  g0 := (hb.cell (p := ⟨6, 0, none⟩) (by have := h.big; show 6 < B; omega)).trans h.g0
  g1 := (hb.cell (p := ⟨0, 0, none⟩) (by have := h.big; show 0 < B; omega)).trans h.g1
  g2 := (hb.cell (p := ⟨1, 0, none⟩) (by have := h.big; show 1 < B; omega)).trans h.g2
  g3 := (hb.cell (p := ⟨2, 0, none⟩) (by have := h.big; show 2 < B; omega)).trans h.g3
  big := Nat.le_trans h.big hb.size
  rS := row_below h.rS hb hB
  rO := row_below h.rO hb hB
  rZ := row_below h.rZ hb hB
  rW := row_below h.rW hb hB
  nSO := h.nSO
  nSZ := h.nSZ
  nSW := h.nSW
  nOZ := h.nOZ
  nOW := h.nOW
  nZW := h.nZW

variable {aS aO aZ aW : Addr}

/-- the error of a code -/
def errV (aS aO aZ aW : Addr) (c : Int) : Value := if c = 0 then .nilIface else if c = 1 then .iface 216 (.pointer (some aO)) else if c = 2 then .iface 216 (.pointer (some aZ)) else if c = 3 then .iface 216 (.pointer (some aW)) else .iface 216 (.pointer (some aS))

end Go.Proofs.YtogenboibgddaaaGreatDoor

namespace Go.Proofs.YtogenboibgddaaaGreatDoor
open Go.RowKit
variable {aS aO aZ aW : Addr}

theorem is_other' {a b : Addr} {w : World} (hne : a ≠ b) (ha : ∃ c t, w.heap[a.block]? = some (.cells c t (0, 0))) (hb : ∃ c t, w.heap[b.block]? = some (.cells c t (0, 0))) :
    Calls Tryz.prog 93 #[.iface 216 (.pointer (some a)), .iface 216 (.pointer (some b))] w fun e w' => e = .returned (.bool false) ∧ w' = w := by
  obtain ⟨c, t, ha⟩ := ha
  obtain ⟨c', t', hb⟩ := hb
  exact is_other a b c c' t t' w hne ha hb

set_option maxHeartbeats 800000 in
theorem evalCode_0 (w : World) :
    Calls Tryz.prog 56 #[.nilIface] w fun e w' => e = .returned (.int .i64 0) ∧ w' = w := by
  go_enter Tryz.func56, Tryz.ntmps56
  go_wp2
  go_ret
  exact ⟨rfl, rfl⟩

set_option maxHeartbeats 800000 in
theorem evalCode_1 (w : World) (hs : Sent w aS aO aZ aW) :
    Calls Tryz.prog 56 #[.iface 216 (.pointer (some aO))] w fun e w' => e = .returned (.int .i64 1) ∧ w' = w := by
  have hg := hs.g1
  go_enter Tryz.func56, Tryz.ntmps56
  go_wp2_with fail
  refine (is_same aO w).mono ?_
  rintro e w' ⟨rfl, rfl⟩
  go_wp2_with fail
  go_ret
  exact ⟨rfl, rfl⟩

set_option maxHeartbeats 800000 in
theorem evalCode_2 (w : World) (hs : Sent w aS aO aZ aW) :
    Calls Tryz.prog 56 #[.iface 216 (.pointer (some aZ))] w fun e w' => e = .returned (.int .i64 2) ∧ w' = w := by
  have hg := hs.g1
  have hg2 := hs.g2
  go_enter Tryz.func56, Tryz.ntmps56
  go_wp2_with fail
  refine (is_other' (fun e => hs.nOZ e.symm) hs.rZ hs.rO).mono ?_
  rintro e w' ⟨rfl, rfl⟩
  go_wp2_with fail
  refine (is_same aZ _).mono ?_
  rintro e w' ⟨rfl, rfl⟩
  go_wp2_with fail
  go_ret
  exact ⟨rfl, rfl⟩

set_option maxHeartbeats 800000 in
theorem evalCode_3 (w : World) (hs : Sent w aS aO aZ aW) :
    Calls Tryz.prog 56 #[.iface 216 (.pointer (some aW))] w fun e w' => e = .returned (.int .i64 3) ∧ w' = w := by
  have hg := hs.g1
  have hg2 := hs.g2
  have hg3 := hs.g3
  go_enter Tryz.func56, Tryz.ntmps56
  go_wp2_with fail
  refine (is_other' (fun e => hs.nOW e.symm) hs.rW hs.rO).mono ?_
  rintro e w' ⟨rfl, rfl⟩
  go_wp2_with fail
  refine (is_other' (fun e => hs.nZW e.symm) hs.rW hs.rZ).mono ?_
  rintro e w' ⟨rfl, rfl⟩
  go_wp2_with fail
  refine (is_same aW _).mono ?_
  rintro e w' ⟨rfl, rfl⟩
  go_wp2_with fail
  go_ret
  exact ⟨rfl, rfl⟩

set_option maxHeartbeats 800000 in
theorem evalCode_4 (w : World) (hs : Sent w aS aO aZ aW) :
    Calls Tryz.prog 56 #[.iface 216 (.pointer (some aS))] w fun e w' => e = .returned (.int .i64 4) ∧ w' = w := by
  have hg := hs.g1
  have hg2 := hs.g2
  have hg3 := hs.g3
  go_enter Tryz.func56, Tryz.ntmps56
  go_wp2_with fail
  refine (is_other' hs.nSO hs.rS hs.rO).mono ?_
  rintro e w' ⟨rfl, rfl⟩
  go_wp2_with fail
  refine (is_other' hs.nSZ hs.rS hs.rZ).mono ?_
  rintro e w' ⟨rfl, rfl⟩
  go_wp2_with fail
  refine (is_other' hs.nSW hs.rS hs.rW).mono ?_
  rintro e w' ⟨rfl, rfl⟩
  go_wp2_with fail
  go_ret
  exact ⟨rfl, rfl⟩

theorem evalCode_any (c : Int) (w : World) (hs : Sent w aS aO aZ aW) (hc : 0 ≤ c ∧ c ≤ 4) :
    Calls Tryz.prog 56 #[errV aS aO aZ aW c] w fun e w' => e = .returned (.int .i64 c) ∧ w' = w := by
  have h : c = 0 ∨ c = 1 ∨ c = 2 ∨ c = 3 ∨ c = 4 := by omega
  rcases h with rfl | rfl | rfl | rfl | rfl
  · exact evalCode_0 w
  · exact evalCode_1 w hs
  · exact evalCode_2 w hs
  · exact evalCode_3 w hs
  · exact evalCode_4 w hs

end Go.Proofs.YtogenboibgddaaaGreatDoor

namespace Go.Proofs.YtogenboibgddaaaGreatDoor
open Go.RowKit

theorem wrap_id {x : Int} (h1 : -9223372036854775808 ≤ x) (h2 : x ≤ 9223372036854775807) : wrap64 x = x := by unfold wrap64; omega
theorem wrap_range (x : Int) : -9223372036854775808 ≤ wrap64 x ∧ wrap64 x ≤ 9223372036854775807 := by unfold wrap64; omega
theorem wrap_far (x : Int) : ∃ k : Int, wrap64 x = x + k * 18446744073709551616 := ⟨-((x + 9223372036854775808) / 18446744073709551616), by unfold wrap64; omega⟩

theorem tdiv_range {x a : Int} (h1 : -9223372036854775808 ≤ x) (h2 : x ≤ 9223372036854775807) (h0 : a ≠ 0) (hm : a ≠ -1 ∨ x ≠ -9223372036854775808) : -9223372036854775808 ≤ x.tdiv a ∧ x.tdiv a ≤ 9223372036854775807 := by
  have hn : (x.tdiv a).natAbs ≤ x.natAbs := by rw [Int.natAbs_tdiv]; exact Nat.div_le_self _ _
  have he := Int.mul_tdiv_add_tmod x a
  have hr : (x.tmod a).natAbs < a.natAbs := by rw [Int.natAbs_tmod]; exact Nat.mod_lt _ (by omega)
  refine ⟨by omega, ?_⟩
  by_cases e : x.tdiv a = 9223372036854775808
  · rw [e] at he hn
    omega
  · omega

theorem mul_ok {a b : Int} (h0 : a ≠ 0) (hb1 : -9223372036854775808 ≤ b) (hb2 : b ≤ 9223372036854775807) (h1 : -9223372036854775808 ≤ a * b) (h2 : a * b ≤ 9223372036854775807) : (wrap64 ((wrap64 (a * b)).tdiv a) != b) = false ∧ wrap64 (a * b) = a * b := by
  have e := wrap_id h1 h2
  refine ⟨?_, e⟩
  rw [e, Int.mul_tdiv_cancel_left b h0, wrap_id hb1 hb2]
  simp

theorem mul_bad {a b : Int} (ha1 : -9223372036854775808 ≤ a) (ha2 : a ≤ 9223372036854775807) (h0 : a ≠ 0) (hm : a ≠ -1) (h : a * b < -9223372036854775808 ∨ 9223372036854775807 < a * b) : (wrap64 ((wrap64 (a * b)).tdiv a) != b) = true := by
  obtain ⟨r1, r2⟩ := wrap_range (a * b)
  obtain ⟨k, hk⟩ := wrap_far (a * b)
  generalize wrap64 (a * b) = x at *
  obtain ⟨t1, t2⟩ := tdiv_range r1 r2 h0 (.inl hm)
  rw [wrap_id t1 t2]
  have he := Int.mul_tdiv_add_tmod x a
  have hr : (x.tmod a).natAbs < a.natAbs := by rw [Int.natAbs_tmod]; exact Nat.mod_lt _ (by omega)
  simp only [bne_iff_ne, ne_eq]
  intro e
  rw [e] at he
  generalize a * b = p at *
  omega

end Go.Proofs.YtogenboibgddaaaGreatDoor

namespace Go.Proofs.YtogenboibgddaaaGreatDoor
open Go.RowKit

/-- it is an int64 -/
structure I64 (a : Int) : Prop where
  lo : -9223372036854775808 ≤ a
  hi : a ≤ 9223372036854775807

variable {aS aO aZ aW : Addr}

def fit (v : Int) : Int × Int := if -9223372036854775808 ≤ v ∧ v ≤ 9223372036854775807 then (v, 0) else (0, 1)

theorem fit_yes {v : Int} (h1 : -9223372036854775808 ≤ v) (h2 : v ≤ 9223372036854775807) : fit v = (v, 0) := if_pos ⟨h1, h2⟩
theorem fit_no {v : Int} (h : v < -9223372036854775808 ∨ 9223372036854775807 < v) : fit v = (0, 1) := if_neg (by omega)

/-- number and error -/
def pairV (aS aO aZ aW : Addr) (p : Int × Int) : Value := .tuple #[.int .i64 p.1, errV aS aO aZ aW p.2]

theorem ret_yes {v : Int} {p : Int × Int} (h : p = (v, 0)) : Ending.returned (.tuple #[.int .i64 v, .nilIface]) = .returned (pairV aS aO aZ aW p) := by subst h; rfl
theorem ret_over {p : Int × Int} (h : p = (0, 1)) : Ending.returned (.tuple #[.int .i64 0, .iface 216 (.pointer (some aO))]) = .returned (pairV aS aO aZ aW p) := by subst h; rfl
theorem ret_zero {p : Int × Int} (h : p = (0, 2)) : Ending.returned (.tuple #[.int .i64 0, .iface 216 (.pointer (some aZ))]) = .returned (pairV aS aO aZ aW p) := by subst h; rfl
theorem ret_shape {p : Int × Int} (h : p = (0, 4)) : Ending.returned (.tuple #[.int .i64 0, .iface 216 (.pointer (some aS))]) = .returned (pairV aS aO aZ aW p) := by subst h; rfl

set_option maxHeartbeats 800000 in
theorem add_any (a b : Int) (w : World) (hs : Sent w aS aO aZ aW) (ha : I64 a) (hb : I64 b) :
    Calls Tryz.prog 127 #[.int .i64 a, .int .i64 b] w fun e w' => e = .returned (pairV aS aO aZ aW (fit (a + b))) ∧ Below w.heap.size w w' := by
  obtain ⟨ha1, ha2⟩ := ha
  obtain ⟨hb1, hb2⟩ := hb
  have hg := hs.g1
  by_cases h0 : 0 < b
  · by_cases h1 : 9223372036854775807 - b < a
    · go_enter Tryz.func127, Tryz.ntmps127
      go_wp2
      go_quiet (fail)
      go_wp2
      go_ret2
      exact ⟨ret_over (fit_no (by omega)), below_drewN (Below.refl _ _) _⟩
    · have h1' : a ≤ 9223372036854775807 - b := by omega
      have h2 : ¬ b < 0 := by omega
      go_enter Tryz.func127, Tryz.ntmps127
      go_wp2
      go_ret2
      exact ⟨ret_yes (fit_yes (by omega) (by omega)), Below.refl _ _⟩
  · have h0' : b ≤ 0 := by omega
    by_cases h2 : b < 0
    · by_cases h1 : a < -9223372036854775808 - b
      · go_enter Tryz.func127, Tryz.ntmps127
        go_wp2
        go_quiet (fail)
        go_wp2
        go_ret2
        exact ⟨ret_over (fit_no (by omega)), below_drewN (Below.refl _ _) _⟩
      · have h1' : -9223372036854775808 - b ≤ a := by omega
        go_enter Tryz.func127, Tryz.ntmps127
        go_wp2
        go_ret2
        exact ⟨ret_yes (fit_yes (by omega) (by omega)), Below.refl _ _⟩
    · have e : b = 0 := by omega
      subst e
      go_enter Tryz.func127, Tryz.ntmps127
      go_wp2
      go_ret2
      exact ⟨ret_yes (by rw [fit_yes] <;> first | omega | simp), Below.refl _ _⟩

set_option maxHeartbeats 800000 in
theorem subtract_any (a b : Int) (w : World) (hs : Sent w aS aO aZ aW) (ha : I64 a) (hb : I64 b) :
    Calls Tryz.prog 128 #[.int .i64 a, .int .i64 b] w fun e w' => e = .returned (pairV aS aO aZ aW (fit (a - b))) ∧ Below w.heap.size w w' := by
  obtain ⟨ha1, ha2⟩ := ha
  obtain ⟨hb1, hb2⟩ := hb
  have hg := hs.g1
  by_cases h0 : b < 0
  · by_cases h1 : 9223372036854775807 + b < a
    · go_enter Tryz.func128, Tryz.ntmps128
      go_wp2
      go_quiet (fail)
      go_wp2
      go_ret2
      exact ⟨ret_over (fit_no (by omega)), below_drewN (Below.refl _ _) _⟩
    · have h1' : a ≤ 9223372036854775807 + b := by omega
      have h2 : ¬ 0 < b := by omega
      go_enter Tryz.func128, Tryz.ntmps128
      go_wp2
      go_ret2
      exact ⟨ret_yes (fit_yes (by omega) (by omega)), Below.refl _ _⟩
  · have h0' : 0 ≤ b := by omega
    by_cases h2 : 0 < b
    · by_cases h1 : a < -9223372036854775808 + b
      · go_enter Tryz.func128, Tryz.ntmps128
        go_wp2
        go_quiet (fail)
        go_wp2
        go_ret2
        exact ⟨ret_over (fit_no (by omega)), below_drewN (Below.refl _ _) _⟩
      · have h1' : -9223372036854775808 + b ≤ a := by omega
        go_enter Tryz.func128, Tryz.ntmps128
        go_wp2
        go_ret2
        exact ⟨ret_yes (fit_yes (by omega) (by omega)), Below.refl _ _⟩
    · have e : b = 0 := by omega
      subst e
      go_enter Tryz.func128, Tryz.ntmps128
      go_wp2
      go_ret2
      exact ⟨ret_yes (by rw [fit_yes] <;> first | omega | simp), Below.refl _ _⟩

set_option maxHeartbeats 800000 in
theorem multiply_any (a b : Int) (w : World) (hs : Sent w aS aO aZ aW) (ha : I64 a) (hb : I64 b) :
    Calls Tryz.prog 129 #[.int .i64 a, .int .i64 b] w fun e w' => e = .returned (pairV aS aO aZ aW (fit (a * b))) ∧ Below w.heap.size w w' := by
  have ha' := ha
  have hb' := hb
  obtain ⟨ha1, ha2⟩ := ha
  obtain ⟨hb1, hb2⟩ := hb
  have hg := hs.g1
  by_cases h0 : a = 0
  · subst h0
    go_enter Tryz.func129, Tryz.ntmps129
    go_wp2
    go_ret2
    exact ⟨ret_yes (by rw [Int.zero_mul]; rfl), Below.refl _ _⟩
  · have e0 : (a == 0) = false := beq_eq_false_iff_ne.2 h0
    by_cases h1 : a = -1
    · subst h1
      go_enter Tryz.func129, Tryz.ntmps129
      go_wp2_with fail
      refine (subtract_any 0 b w hs ⟨by omega, by omega⟩ hb').mono ?_
      rintro e w1 ⟨rfl, hb3⟩
      have e5 : (0 : Int) - b = -1 * b := by omega
      rw [e5, pairV]
      generalize hf : fit (-1 * b) = f
      have Hf := hide hf
      clear hf
      go_wp2
      go_ret2
      exact ⟨by rw [unhide Hf]; rfl, hb3⟩
    · have e1 : (a == -1) = false := beq_eq_false_iff_ne.2 h1
      by_cases hf : -9223372036854775808 ≤ a * b ∧ a * b ≤ 9223372036854775807
      · obtain ⟨hv, hw⟩ := mul_ok h0 hb1 hb2 hf.1 hf.2
        have Hf := hide (fit_yes hf.1 hf.2)
        have Hw := hide hw
        clear hf hw
        go_enter Tryz.func129, Tryz.ntmps129
        go_wp2
        go_ret2
        exact ⟨by rw [unhide Hw]; exact ret_yes (unhide Hf), Below.refl _ _⟩
      · have hf' : a * b < -9223372036854775808 ∨ 9223372036854775807 < a * b := by generalize a * b = p at *; omega
        have hv := mul_bad ha1 ha2 h0 h1 hf'
        have Hf := hide (fit_no hf')
        clear hf hf'
        go_enter Tryz.func129, Tryz.ntmps129
        go_wp2
        go_quiet (fail)
        go_wp2
        go_ret2
        exact ⟨ret_over (unhide Hf), below_drewN (Below.refl _ _) _⟩

def divF (a b : Int) : Int × Int := if b = 0 then (0, 2) else fit (a.tdiv b)
def modF (a b : Int) : Int × Int := if b = 0 then (0, 2) else fit (a.tmod b)

set_option maxHeartbeats 800000 in
theorem divide_any (a b : Int) (w : World) (hs : Sent w aS aO aZ aW) (ha : I64 a) (hb : I64 b) :
    Calls Tryz.prog 130 #[.int .i64 a, .int .i64 b] w fun e w' => e = .returned (pairV aS aO aZ aW (divF a b)) ∧ Below w.heap.size w w' := by
  obtain ⟨ha1, ha2⟩ := ha
  obtain ⟨hb1, hb2⟩ := hb
  have hg := hs.g1
  have hg2 := hs.g2
  by_cases h0 : b = 0
  · subst h0
    go_enter Tryz.func130, Tryz.ntmps130
    go_wp2
    go_quiet (fail)
    go_wp2
    go_ret2
    exact ⟨ret_zero rfl, below_drewN (Below.refl _ _) _⟩
  · have e0 : (b == 0) = false := beq_eq_false_iff_ne.2 h0
    by_cases hm : a = -9223372036854775808 ∧ b = -1
    · obtain ⟨rfl, rfl⟩ := hm
      go_enter Tryz.func130, Tryz.ntmps130
      go_wp2
      go_quiet (fail)
      go_wp2
      go_ret2
      exact ⟨ret_over (by decide), below_drewN (Below.refl _ _) _⟩
    · have hr := tdiv_range ha1 ha2 h0 (by omega)
      have Hf := hide (show divF a b = (a.tdiv b, 0) by rw [divF, if_neg h0, fit_yes hr.1 hr.2])
      have Hw := hide (wrap_id hr.1 hr.2)
      clear hr
      by_cases h1 : a = -9223372036854775808
      · have e1 : (a == -9223372036854775808) = true := beq_iff_eq.2 h1
        have e2 : (b == -1) = false := beq_eq_false_iff_ne.2 (fun e => hm ⟨h1, e⟩)
        clear h1 hm
        go_enter Tryz.func130, Tryz.ntmps130
        go_wp2
        go_ret2
        exact ⟨by rw [unhide Hw]; exact ret_yes (unhide Hf), Below.refl _ _⟩
      · have e1 : (a == -9223372036854775808) = false := beq_eq_false_iff_ne.2 h1
        clear h1 hm
        go_enter Tryz.func130, Tryz.ntmps130
        go_wp2
        go_ret2
        exact ⟨by rw [unhide Hw]; exact ret_yes (unhide Hf), Below.refl _ _⟩

theorem tmod_range {x a : Int} (h1 : -9223372036854775808 ≤ x) (h2 : x ≤ 9223372036854775807) : -9223372036854775808 ≤ x.tmod a ∧ x.tmod a ≤ 9223372036854775807 := by
  have hn : (x.tmod a).natAbs ≤ x.natAbs := by rw [Int.natAbs_tmod]; exact Nat.mod_le _ _
  have hs : 0 ≤ x → 0 ≤ x.tmod a := fun h => Int.tmod_nonneg a h
  have hs' : x ≤ 0 → x.tmod a ≤ 0 := fun h => by
    have := Int.tmod_nonneg a (show 0 ≤ -x by omega)
    rw [Int.neg_tmod] at this
    omega
  omega

set_option maxHeartbeats 800000 in
theorem remainder_any (a b : Int) (w : World) (hs : Sent w aS aO aZ aW) (ha : I64 a) (hb : I64 b) :
    Calls Tryz.prog 131 #[.int .i64 a, .int .i64 b] w fun e w' => e = .returned (pairV aS aO aZ aW (modF a b)) ∧ Below w.heap.size w w' := by
  obtain ⟨ha1, ha2⟩ := ha
  obtain ⟨hb1, hb2⟩ := hb
  have hg2 := hs.g2
  by_cases h0 : b = 0
  · subst h0
    go_enter Tryz.func131, Tryz.ntmps131
    go_wp2
    go_quiet (fail)
    go_wp2
    go_ret2
    exact ⟨ret_zero rfl, below_drewN (Below.refl _ _) _⟩
  · have e0 : (b == 0) = false := beq_eq_false_iff_ne.2 h0
    by_cases h1 : b = -1
    · subst h1
      go_enter Tryz.func131, Tryz.ntmps131
      go_wp2
      go_ret2
      exact ⟨ret_yes (by rw [modF, if_neg h0, Int.tmod_neg, Int.tmod_one]; rfl), Below.refl _ _⟩
    · have e1 : (b == -1) = false := beq_eq_false_iff_ne.2 h1
      have hr := tmod_range (a := b) ha1 ha2
      have Hf := hide (show modF a b = (a.tmod b, 0) by rw [modF, if_neg h0, fit_yes hr.1 hr.2])
      have Hw := hide (wrap_id hr.1 hr.2)
      clear hr
      go_enter Tryz.func131, Tryz.ntmps131
      go_wp2
      go_ret2
      exact ⟨by first | (rw [unhide Hw]; exact ret_yes (unhide Hf)) | exact ret_yes (unhide Hf), Below.refl _ _⟩

def calcF (op a b : Int) : Int × Int :=
  if op = 1 then fit (a + b) else if op = 2 then fit (a - b) else if op = 3 then fit (a * b) else if op = 4 then divF a b else if op = 5 then modF a b else (0, 4)

set_option maxHeartbeats 1600000 in
theorem calculate_any (op a b : Int) (w : World) (hs : Sent w aS aO aZ aW) (ha : I64 a) (hb : I64 b) :
    Calls Tryz.prog 123 #[.int .i64 op, .int .i64 a, .int .i64 b] w fun e w' => e = .returned (pairV aS aO aZ aW (calcF op a b)) ∧ Below w.heap.size w w' := by
  have hg := hs.g0
  by_cases h1 : op = 1
  · subst h1
    go_enter Tryz.func123, Tryz.ntmps123
    go_wp2_with fail
    refine (add_any a b w hs ha hb).mono ?_
    rintro e w1 ⟨rfl, hb1⟩
    rw [pairV]
    go_wp2
    go_ret2
    exact ⟨rfl, hb1⟩
  by_cases h2 : op = 2
  · subst h2
    go_enter Tryz.func123, Tryz.ntmps123
    go_wp2_with fail
    refine (subtract_any a b w hs ha hb).mono ?_
    rintro e w1 ⟨rfl, hb1⟩
    rw [pairV]
    go_wp2
    go_ret2
    exact ⟨rfl, hb1⟩
  by_cases h3 : op = 3
  · subst h3
    go_enter Tryz.func123, Tryz.ntmps123
    go_wp2_with fail
    refine (multiply_any a b w hs ha hb).mono ?_
    rintro e w1 ⟨rfl, hb1⟩
    rw [pairV]
    go_wp2
    go_ret2
    exact ⟨rfl, hb1⟩
  by_cases h4 : op = 4
  · subst h4
    go_enter Tryz.func123, Tryz.ntmps123
    go_wp2_with fail
    refine (divide_any a b w hs ha hb).mono ?_
    rintro e w1 ⟨rfl, hb1⟩
    rw [pairV]
    go_wp2
    go_ret2
    exact ⟨rfl, hb1⟩
  by_cases h5 : op = 5
  · subst h5
    go_enter Tryz.func123, Tryz.ntmps123
    go_wp2_with fail
    refine (remainder_any a b w hs ha hb).mono ?_
    rintro e w1 ⟨rfl, hb1⟩
    rw [pairV]
    go_wp2
    go_ret2
    exact ⟨rfl, hb1⟩
  have e1 : (op == 1) = false := beq_eq_false_iff_ne.2 h1
  have e2 : (op == 2) = false := beq_eq_false_iff_ne.2 h2
  have e3 : (op == 3) = false := beq_eq_false_iff_ne.2 h3
  have e4 : (op == 4) = false := beq_eq_false_iff_ne.2 h4
  have e5 : (op == 5) = false := beq_eq_false_iff_ne.2 h5
  have Hf := hide (show calcF op a b = (0, 4) by rw [calcF, if_neg h1, if_neg h2, if_neg h3, if_neg h4, if_neg h5])
  clear h1 h2 h3 h4 h5
  go_enter Tryz.func123, Tryz.ntmps123
  go_wp2
  go_quiet (fail)
  go_wp2
  go_ret2
  exact ⟨ret_shape (unhide Hf), below_drewN (Below.refl _ _) _⟩

end Go.Proofs.YtogenboibgddaaaGreatDoor

namespace Go.Proofs.YtogenboibgddaaaGreatDoor
open Go.RowKit

theorem wrapU_id {x : Int} (h1 : 0 ≤ x) (h2 : x < 18446744073709551616) : IntKind.u64.wrap x = x := by rw [IntKind.wrap_u64]; omega
theorem wrapU (x : Int) : IntKind.u64.wrap x = x % 18446744073709551616 := IntKind.wrap_u64 x

theorem or_bit (h t : Int) (h0 : 0 ≤ h) (h1 : h < 4611686018427387904) (t0 : 0 ≤ t) (t1 : t < 2) : bits .or .u64 (h * 2) t = h * 2 + t := by
  rw [u64_or (h * 2) t (by omega) (by omega) (by omega) (by omega)]
  have e : (h * 2).toNat = 2 ^ 1 * h.toNat := by omega
  rw [e, ← Nat.two_pow_add_eq_or_of_lt (by omega)]
  omega

theorem half_step (a : Int) (k : Nat) (hk : 1 ≤ k) : a / 2 ^ k = (a / 2 ^ (k - 1)) / 2 := by
  obtain ⟨m, rfl⟩ : ∃ m, k = m + 1 := ⟨k - 1, by omega⟩
  rw [show m + 1 - 1 = m from by omega, Int.pow_succ, Int.ediv_ediv_of_nonneg (Int.le_of_lt (Int.pow_pos (by omega)))]

/-- what a round does: the new high and low words, by the bit -/
theorem times_round {a b hi lo : Int} {k : Nat} (hk : 1 ≤ k) (ha : 0 ≤ a ∧ a ≤ 9223372036854775808) (hb : 0 ≤ b ∧ b ≤ 9223372036854775808) (h1 : 0 ≤ hi) (h2 : hi < 18446744073709551616) (h3 : 0 ≤ lo) (h4 : lo < 18446744073709551616)
    (hv : hi * 18446744073709551616 + lo = (a / 2 ^ k) * b) :
    ∃ V t A : Int, A = a / 2 ^ (k - 1) ∧ 0 ≤ A ∧ A < 18446744073709551616 ∧ t = A % 2 ∧ 0 ≤ V ∧ V < 170141183460469231731687303715884105728 ∧ A * b = V + t * b ∧
      bits .or .u64 (IntKind.u64.wrap (hi * 2)) (lo / 9223372036854775808) = V / 18446744073709551616 ∧ IntKind.u64.wrap (lo * 2) = V % 18446744073709551616 := by
  have hA := half_step a k hk
  generalize hA' : a / 2 ^ (k - 1) = A at *
  have hpos : (0 : Int) < 2 ^ (k - 1) := Int.pow_pos (by omega)
  have hA0 : 0 ≤ A := by rw [← hA']; exact Int.ediv_nonneg ha.1 (by omega)
  have hA1 : A ≤ a := by rw [← hA']; exact Int.ediv_le_self _ ha.1
  rw [hA] at hv
  have hle : (A / 2) * b ≤ 4611686018427387904 * 9223372036854775808 := Int.mul_le_mul (by omega) hb.2 hb.1 (by omega)
  have hge : 0 ≤ (A / 2) * b := Int.mul_nonneg (by omega) hb.1
  have hAb : A * b = 2 * ((A / 2) * b) + (A % 2) * b := by
    have : A = 2 * (A / 2) + A % 2 := by omega
    conv => lhs; rw [this]
    rw [Int.add_mul, Int.mul_assoc]
  generalize (A / 2) * b = P at *
  have hhi : hi ≤ 2305843009213693952 := by omega
  refine ⟨2 * P, A % 2, A, rfl, hA0, by omega, rfl, by omega, by omega, hAb, ?_, ?_⟩
  · rw [wrapU_id (by omega) (by omega), or_bit hi (lo / 9223372036854775808) h1 (by omega) (by omega) (by omega)]
    omega
  · rw [wrapU]; omega

variable {a b hi lo : Int} {k : Nat}

theorem times_one (hk : 1 ≤ k) (ha : 0 ≤ a ∧ a ≤ 9223372036854775808) (hb : 0 ≤ b ∧ b ≤ 9223372036854775808) (h1 : 0 ≤ hi) (h2 : hi < 18446744073709551616) (h3 : 0 ≤ lo) (h4 : lo < 18446744073709551616)
    (hv : hi * 18446744073709551616 + lo = (a / 2 ^ k) * b) (hbit : (bits BinOp.and IntKind.u64 (a / 2 ^ (k - 1)) 1 == 1) = true) (hc : IntKind.u64.wrap (IntKind.u64.wrap (lo * 2) + b) < IntKind.u64.wrap (lo * 2)) :
    ∃ hi' lo' : Int, hi' = IntKind.u64.wrap (bits BinOp.or IntKind.u64 (IntKind.u64.wrap (hi * 2)) (lo / 9223372036854775808) + 1) ∧ lo' = IntKind.u64.wrap (IntKind.u64.wrap (lo * 2) + b) ∧
      0 ≤ hi' ∧ hi' < 18446744073709551616 ∧ 0 ≤ lo' ∧ lo' < 18446744073709551616 ∧ hi' * 18446744073709551616 + lo' = (a / 2 ^ (k - 1)) * b := by
  obtain ⟨V, t, A, hA, hA0, hA1, ht, hV0, hV1, hAb, ho, hl⟩ := times_round hk ha hb h1 h2 h3 h4 hv
  rw [← hA, and_one_u64 A hA0 (by omega), beq_iff_eq] at hbit
  rw [hl, wrapU] at hc
  refine ⟨_, _, rfl, rfl, ?_⟩
  rw [ho, hl, wrapU, wrapU, ← hA, hAb, ht, hbit]
  omega

theorem times_two (hk : 1 ≤ k) (ha : 0 ≤ a ∧ a ≤ 9223372036854775808) (hb : 0 ≤ b ∧ b ≤ 9223372036854775808) (h1 : 0 ≤ hi) (h2 : hi < 18446744073709551616) (h3 : 0 ≤ lo) (h4 : lo < 18446744073709551616)
    (hv : hi * 18446744073709551616 + lo = (a / 2 ^ k) * b) (hbit : (bits BinOp.and IntKind.u64 (a / 2 ^ (k - 1)) 1 == 1) = true) (hc : IntKind.u64.wrap (lo * 2) ≤ IntKind.u64.wrap (IntKind.u64.wrap (lo * 2) + b)) :
    ∃ hi' lo' : Int, hi' = bits BinOp.or IntKind.u64 (IntKind.u64.wrap (hi * 2)) (lo / 9223372036854775808) ∧ lo' = IntKind.u64.wrap (IntKind.u64.wrap (lo * 2) + b) ∧
      0 ≤ hi' ∧ hi' < 18446744073709551616 ∧ 0 ≤ lo' ∧ lo' < 18446744073709551616 ∧ hi' * 18446744073709551616 + lo' = (a / 2 ^ (k - 1)) * b := by
  obtain ⟨V, t, A, hA, hA0, hA1, ht, hV0, hV1, hAb, ho, hl⟩ := times_round hk ha hb h1 h2 h3 h4 hv
  rw [← hA, and_one_u64 A hA0 (by omega), beq_iff_eq] at hbit
  rw [hl, wrapU] at hc
  refine ⟨_, _, rfl, rfl, ?_⟩
  rw [ho, hl, wrapU, ← hA, hAb, ht, hbit]
  omega

theorem times_three (hk : 1 ≤ k) (ha : 0 ≤ a ∧ a ≤ 9223372036854775808) (hb : 0 ≤ b ∧ b ≤ 9223372036854775808) (h1 : 0 ≤ hi) (h2 : hi < 18446744073709551616) (h3 : 0 ≤ lo) (h4 : lo < 18446744073709551616)
    (hv : hi * 18446744073709551616 + lo = (a / 2 ^ k) * b) (hbit : (bits BinOp.and IntKind.u64 (a / 2 ^ (k - 1)) 1 == 1) = false) :
    ∃ hi' lo' : Int, hi' = bits BinOp.or IntKind.u64 (IntKind.u64.wrap (hi * 2)) (lo / 9223372036854775808) ∧ lo' = IntKind.u64.wrap (lo * 2) ∧
      0 ≤ hi' ∧ hi' < 18446744073709551616 ∧ 0 ≤ lo' ∧ lo' < 18446744073709551616 ∧ hi' * 18446744073709551616 + lo' = (a / 2 ^ (k - 1)) * b := by
  obtain ⟨V, t, A, hA, hA0, hA1, ht, hV0, hV1, hAb, ho, hl⟩ := times_round hk ha hb h1 h2 h3 h4 hv
  rw [← hA, and_one_u64 A hA0 (by omega), beq_eq_false_iff_ne] at hbit
  have h0 : A % 2 = 0 := by omega
  refine ⟨_, _, rfl, rfl, ?_⟩
  rw [ho, hl, ← hA, hAb, ht, h0]
  omega

end Go.Proofs.YtogenboibgddaaaGreatDoor

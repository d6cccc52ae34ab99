/-
  MarkT, Mark, OwnM, Own, KL, KM, KN0, EZ4, Open. Own work.
-/
import Derived.Test.YtpbopjgmiaoomaaGreatDoorMXAF
import Derived.Test.YtpbopjgmiaoomaaGreatDoorMXAC
import Derived.Test.YtpbopjgmiaoomaaGreatDoorMXAT
import Derived.Test.YtpbopjgmiaoomaaGreatDoorMXAB
import Derived.ProofKit
import Derived.SliceStrings
namespace Go.Proofs.YtpbopjgmiaoomaaGreatDoor
open Go.RowKit

/-- decimal digits, put ahead of what is there -/
def digs : Nat → Nat → ByteArray → ByteArray
  | 0, _, l => l
  | f + 1, k, l => if k = 0 then l else digs f (k / 10) (byte1 (48 + (k : Int) % 10) ++ l)

theorem digs_zero (f : Nat) (l : ByteArray) : digs f 0 l = l := by cases f <;> simp [digs]

theorem digs_succ (f k : Nat) (l : ByteArray) (h : k ≠ 0) : digs (f + 1) k l = digs f (k / 10) (byte1 (48 + (k : Int) % 10) ++ l) := by simp [digs, h]

theorem digs_len : ∀ (f k : Nat) (l : ByteArray), (digs f k l).size ≤ l.size + k
  | 0, _, _ => by simp [digs]
  | f + 1, k, l => by
    by_cases h : k = 0
    · simp [digs, h]
    · have := digs_len f (k / 10) (byte1 (48 + (k : Int) % 10) ++ l)
      rw [digs_succ f k l h]
      rw [size_app, byte1_size] at this
      omega

def markS (k : Nat) : ByteArray := if k = 0 then ⟨#[109, 48]⟩ else ⟨#[109]⟩ ++ digs (k + 1) k ⟨#[]⟩

theorem markS_size (k : Nat) : (markS k).size ≤ k + 2 := by
  unfold markS
  by_cases h : k = 0
  · simp [h, ByteArray.size]
  · have := digs_len (k + 1) k ⟨#[]⟩
    rw [if_neg h, size_app]
    simp only [ByteArray.size, List.size_toArray, List.length_nil, List.length_cons] at this ⊢
    omega

set_option maxHeartbeats 800000 in
theorem markText_any (k : Nat) (w : World) (hk : k ≤ 35184372088832) :
    Calls Tryz.prog 65 #[.int .i64 k] w fun e w' => e = .returned (.string (markS k)) ∧ Below w.heap.size w w' := by
  by_cases h0 : k = 0
  · subst h0
    go_enter Tryz.func65, Tryz.ntmps65
    go_wp2
    go_ret
    exact ⟨rfl, Below.refl _ _⟩
  · have h1 : (0 : Int) < (k : Int) := by omega
    have Hm := hide (show markS k = ⟨#[109]⟩ ++ digs (k + 1) k ⟨#[]⟩ by rw [markS, if_neg h0])
    have hcv := conv1
    clear h0
    go_enter Tryz.func65, Tryz.ntmps65
    go_wp2
    go_loopw [0, 3] (fun i o wr => ∃ (m f : Nat) (l : ByteArray), i = .int .i64 m ∧ o = .string l ∧ m < f ∧ l.size + m ≤ k ∧ digs f m l = digs (k + 1) k ⟨#[]⟩ ∧ Below w.heap.size w wr) (fun i _ _ => (intOf i).toNat)
    case atStart => exact ⟨k, k + 1, ⟨#[]⟩, rfl, rfl, by omega, by simp [ByteArray.size], rfl, Below.refl _ _⟩
    case round =>
      obtain ⟨m, f, l, rfl, rfl, hmf, hl, hd, hb⟩ := hrel
      have hbs := hb.size
      by_cases hm : m = 0
      · subst hm
        rw [digs_zero] at hd
        have Hd := hide hd
        clear hd
        go_wp2
        go_ret
        exact ⟨by rw [unhide Hm, ← unhide Hd]; rfl, hb⟩
      · have hm' : (0 : Int) < (m : Int) := by omega
        obtain ⟨f', rfl⟩ : ∃ f', f = f' + 1 := ⟨f - 1, by omega⟩
        rw [digs_succ f' m l hm] at hd
        have Hd := hide hd
        clear hd
        have hs1 := byte1_size (48 + (m : Int) % 10)
        go_wp2
        go_roundw
        case rel => exact ⟨m / 10, f', _, by go_num, rfl, by omega, by rw [size_app, byte1_size]; omega, unhide Hd, hb.alloc hbs _⟩
        case measure => simp [intOf]; omega

theorem markText_int (x : Int) (w : World) (h0 : 0 ≤ x) (hk : x ≤ 35184372088832) :
    Calls Tryz.prog 65 #[.int .i64 x] w fun e w' => e = .returned (.string (markS x.toNat)) ∧ Below w.heap.size w w' := by
  obtain ⟨n, rfl⟩ := Int.eq_ofNat_of_zero_le h0
  rw [Int.toNat_natCast]
  exact markText_any n w (by omega)

end Go.Proofs.YtpbopjgmiaoomaaGreatDoor



namespace Go.Proofs.YtpbopjgmiaoomaaGreatDoor
open Go.RowKit

/-- marks from k on -/
def marks (k n : Nat) : List ByteArray := (List.range n).map fun j => markS (k + j)

/-- the first i are marked -/
def marked (ss : List ByteArray) (k n i : Nat) : List ByteArray := (List.range n).map fun j => if j < i then markS (k + j) else nth ss j

theorem marked_zero (ss : List ByteArray) (k n : Nat) (h : n = ss.length) : marked ss k n 0 = ss := by
  apply List.ext_getElem
  · simp [marked, h]
  · intro i h1 h2; simp [marked, nth_eq ss i h2]

theorem marked_full (ss : List ByteArray) (k n : Nat) : marked ss k n n = marks k n := by
  apply List.ext_getElem
  · simp [marked, marks]
  · intro i h1 h2
    have : i < n := by simpa [marked] using h1
    simp [marked, marks, this]

theorem marked_set (ss : List ByteArray) (k n i : Nat) : ((marked ss k n i).map Value.string).set i (.string (markS (k + i))) = (marked ss k n (i + 1)).map Value.string := by
  apply List.ext_getElem
  · simp [marked]
  · intro j h1 h2
    rw [List.getElem_set]
    simp only [marked, List.getElem_map, List.getElem_range]
    by_cases e : i = j
    · subst e; simp
    · rw [if_neg e]
      by_cases h : j < i
      · rw [if_pos h, if_pos (by omega)]
      · rw [if_neg h, if_neg (by omega)]

theorem marked_at (ss : List ByteArray) (k n i : Nat) (h : i < n) : ((marked ss k n i).map Value.string)[i]? = some (.string (nth ss i)) := by
  simp [marked, h]

theorem marks_nth (k n j : Nat) (h : j < n) : nth (marks k n) j = markS (k + j) := by
  rw [nth_eq _ j (by simpa [marks] using h)]; simp [marks]

theorem marks_sizes (k n : Nat) (hk : k + n ≤ 35184372088832) : ∀ j, j < n → (nth (marks k n) j).size ≤ maxLen := fun j hj => by
  rw [marks_nth k n j hj]
  have := markS_size (k + j)
  unfold maxLen; omega

set_option maxHeartbeats 1600000 in
theorem markStringS_any (lo hi : Nat) (a : Option Addr) (n c : Nat) (ss : List ByteArray) (k : Nat) (w : World) (h : OwnS w lo hi a n c ss) (hk : k + n ≤ 35184372088832) :
    Calls Tryz.prog 66 #[.slice a n c, .int .i64 k] w fun e w' => e = .returned (.int .i64 ((k : Int) + n)) ∧ OwnS w' lo hi a n c (marks k n) ∧ Touch lo hi w w' := by
  have hlen := h.strs.len
  have Hl := hide hlen
  clear hlen
  go_enter Tryz.func66, Tryz.ntmps66
  go_wp2
  go_loopw [1, 5] (fun q i wr => ∃ j : Nat, j ≤ n ∧ i = .int .i64 j ∧ q = .int .i64 ((k : Int) + j) ∧ wr.ownsRow lo 9 1 (.slice a n c) n ((marked ss k n j).map Value.string) ∧ Touch lo hi w wr) (fun _ i _ => n - (intOf i).toNat)
  case atStart => exact ⟨0, Nat.zero_le _, rfl, by go_num, by rw [marked_zero ss k n (unhide Hl)]; exact h.own, Touch.refl _ _ _⟩
  case round =>
    obtain ⟨j, hj, rfl, rfl, hown, ht⟩ := hrel
    by_cases hlt : j < n
    · obtain ⟨g, hg⟩ : ∃ g, a = some ⟨g, 0, none⟩ := by
        rcases hown.2 with ⟨_, h0⟩ | ⟨g, cap, cur, hv, _⟩
        · omega
        · simp only [Value.slice.injEq] at hv; exact ⟨g, hv.1⟩
      subst hg
      have hgl : lo ≤ g := (hown.lt g rfl).1
      have hgh : g < hi := h.lt _ rfl
      have hgs : g < wr.heap.size := (hown.lt g rfl).2
      have ilt : (j : Int) < (n : Int) := by omega
      go_wp2_with fail
      refine (markText_int _ wr (by omega) (by omega)).mono ?_
      rintro e w1 ⟨rfl, hb1⟩
      rw [show ((k : Int) + (j : Int)).toNat = k + j from by omega]
      have hown1 := owns_of_block (w' := w1) hown (fun x hx => by cases hx; exact hb1.block g hgs)
      have hc1 := (hown1.cellAt j (by omega)).trans (marked_at ss k n j hlt)
      have hf1 := hown1.frozenAt j
      have Hst := hide (hown1.stored j (.string (markS (k + j)))).1
      have ht1 := ht.trans (Touch.of_below (lo := lo) (hi := hi) hb1 (Nat.le_refl _))
      clear hown hown1 hb1 ht
      go_wp2
      go_roundw
      case rel => exact ⟨j + 1, by omega, by go_num, by go_num, by rw [← marked_set]; exact unhide Hst, ht1.trans (Touch.setCell _ _ _ hgl hgh)⟩
      case measure => simp [intOf]; omega
    · have e : j = n := by omega
      subst e
      go_wp2
      go_ret
      rw [marked_full] at hown
      exact ⟨rfl, ⟨hown, h.lt, marks_sizes k j hk, Nat.le_trans h.top ht.size⟩, ht⟩

theorem markStringS_int (lo hi : Nat) (a : Option Addr) (n c : Nat) (ss : List ByteArray) (x : Int) (w : World) (h : OwnS w lo hi a n c ss) (h0 : 0 ≤ x) (hk : x + n ≤ 35184372088832) :
    Calls Tryz.prog 66 #[.slice a n c, .int .i64 x] w fun e w' => e = .returned (.int .i64 (x + n)) ∧ OwnS w' lo hi a n c (marks x.toNat n) ∧ Touch lo hi w w' := by
  obtain ⟨k, rfl⟩ := Int.eq_ofNat_of_zero_le h0
  rw [Int.toNat_natCast]
  exact markStringS_any lo hi a n c ss k w h (by omega)

end Go.Proofs.YtpbopjgmiaoomaaGreatDoor

namespace Go.Proofs.YtpbopjgmiaoomaaGreatDoor
open Go.RowKit

set_option maxHeartbeats 1600000 in
theorem heldStringS_any (a : Option Addr) (n c : Nat) (k : Nat) (w : World) (h : Strs w a n c (marks k n)) (hk : k + n ≤ 35184372088832) :
    Calls Tryz.prog 67 #[.slice a n c, .int .i64 k] w fun e w' => e = .returned (.int .i64 ((k : Int) + n)) ∧ Below w.heap.size w w' := by
  go_enter Tryz.func67, Tryz.ntmps67
  go_wp2
  go_loopw [1, 5] (fun q i wr => ∃ j : Nat, j ≤ n ∧ i = .int .i64 j ∧ q = .int .i64 ((k : Int) + j) ∧ Below w.heap.size w wr) (fun _ i _ => n - (intOf i).toNat)
  case atStart => exact ⟨0, Nat.zero_le _, rfl, by go_num, Below.refl _ _⟩
  case round =>
    obtain ⟨j, hj, rfl, rfl, hb⟩ := hrel
    by_cases hlt : j < n
    · obtain ⟨b, off, ha, hbl, hc⟩ := (h.below hb (Nat.le_refl _)).cells j hlt
      rw [marks_nth k n j hlt] at hc
      subst ha
      have ilt : (j : Int) < (n : Int) := by omega
      go_wp2_with fail
      go_region_held3 (fun w' => w'.cell? ⟨b, off + j, none⟩ = some (.string (markS (k + j)))) (go_keep)
        ((go_at_call 65; refine (markText_int _ _ (by omega) (by omega)).mono ?_; rintro e w1 ⟨rfl, hb1⟩; rw [show ((k : Int) + (j : Int)).toNat = k + j from by omega]; have hq := (hb1.cell (p := ⟨b, off + j, none⟩) hbl).trans hc))
      go_wp2
      go_roundw
      case rel => exact ⟨j + 1, by omega, by go_num, by go_num, hb.drew.trans (hb1.mono hb.size)⟩
      case measure => simp [intOf]; omega
    · have e : j = n := by omega
      subst e
      go_wp2
      go_ret
      exact ⟨rfl, hb⟩

theorem heldStringS_int (a : Option Addr) (n c : Nat) (x : Int) (w : World) (h : Strs w a n c (marks x.toNat n)) (h0 : 0 ≤ x) (hk : x + n ≤ 35184372088832) :
    Calls Tryz.prog 67 #[.slice a n c, .int .i64 x] w fun e w' => e = .returned (.int .i64 (x + n)) ∧ Below w.heap.size w w' := by
  obtain ⟨k, rfl⟩ := Int.eq_ofNat_of_zero_le h0
  rw [Int.toNat_natCast] at h
  exact heldStringS_any a n c k w h (by omega)

end Go.Proofs.YtpbopjgmiaoomaaGreatDoor

namespace Go.Proofs.YtpbopjgmiaoomaaGreatDoor
open Go.RowKit
set_option linter.unusedVariables false

theorem OwnP.upto {w w' : World} {lo : Nat} {v : Value} {P : List Vl} {nv : List Value} (h : OwnP w lo v P nv) (h1 : ∀ q, v.ownBlock = some q → w'.heap[q]? = w.heap[q]?) (h2 : ∀ j, (hj : j < nv.length) → ∀ q, nv[j].ownBlock = some q → w'.heap[q]? = w.heap[q]?) : OwnP w' lo v P nv :=
  ⟨h.len, owns_blocks h.own h1, fun j hj hj' => owns_blocks (h.names j hj hj') (h2 j hj'), h.apart, h.far⟩

/-- a value's mark -/
def mkV (k m : Nat) : Vl := ⟨((k : Nat) : Int), ((k + 1 : Nat) : Int), markS (k + 2), marks (k + 3) m⟩

def mpl : Nat → List Vl → List Vl
  | _, [] => []
  | k, x :: P => mkV k x.names.length :: mpl (k + 3 + x.names.length) P

/-- the mark behind the first j -/
def mkK (k : Nat) (P : List Vl) (j : Nat) : Nat := k + 3 * j + ((P.take j).map fun x => x.names.length).sum

theorem mpl_len : ∀ (k : Nat) (P : List Vl), (mpl k P).length = P.length
  | _, [] => rfl
  | k, x :: P => by simp [mpl, mpl_len]

theorem mkK_succ (k : Nat) (P : List Vl) (j : Nat) (h : j < P.length) : mkK k P (j + 1) = mkK k P j + 3 + P[j].names.length := by
  rw [mkK, mkK, List.take_succ_eq_append_getElem h, List.map_append, List.sum_append]
  simp; omega

theorem mkK_zero (k : Nat) (P : List Vl) : mkK k P 0 = k := by simp [mkK]

theorem mkK_mono (k : Nat) (P : List Vl) (j : Nat) (h : j ≤ P.length) : mkK k P j ≤ mkK k P P.length := by
  have : ∀ d, j + d ≤ P.length → mkK k P j ≤ mkK k P (j + d) := by
    intro d
    induction d with
    | zero => intro _; exact Nat.le_refl _
    | succ d ih => intro hd; have := ih (by omega); have := mkK_succ k P (j + d) (by omega); rw [← Nat.add_assoc]; omega
  have := this (P.length - j) (by omega)
  rwa [show j + (P.length - j) = P.length by omega] at this

theorem mpl_at : ∀ (k : Nat) (P : List Vl) (j : Nat) (h : j < P.length) (h' : j < (mpl k P).length), (mpl k P)[j] = mkV (mkK k P j) P[j].names.length
  | k, x :: P, 0, _, _ => by simp [mpl, mkK]
  | k, x :: P, j + 1, h, h' => by
    have ih := mpl_at (k + 3 + x.names.length) P j (by simpa using h) (by simpa [mpl] using h')
    simp only [mpl, List.getElem_cons_succ]
    rw [ih]
    congr 1
    simp only [mkK, List.take_succ_cons, List.map_cons, List.sum_cons]; omega

/-- the first j are marked -/
def mixV (k : Nat) (P : List Vl) (j : Nat) : List Vl := (mpl k P).take j ++ P.drop j

theorem mixV_zero (k : Nat) (P : List Vl) : mixV k P 0 = P := by simp [mixV]
theorem mixV_full (k : Nat) (P : List Vl) : mixV k P P.length = mpl k P := by rw [mixV, List.drop_length, List.append_nil, List.take_of_length_le (by rw [mpl_len]; exact Nat.le_refl _)]
theorem mixV_len (k : Nat) (P : List Vl) (j : Nat) (h : j ≤ P.length) : (mixV k P j).length = P.length := by
  rw [mixV, List.length_append, List.length_take, List.length_drop, mpl_len]; omega
theorem mixV_at (k : Nat) (P : List Vl) (j : Nat) (h : j < P.length) (h' : j < (mixV k P j).length) : (mixV k P j)[j] = P[j] := by
  have hl : ((mpl k P).take j).length = j := by rw [List.length_take, mpl_len]; omega
  simp only [mixV]
  rw [List.getElem_append_right (by omega)]
  simp only [hl, Nat.sub_self, List.getElem_drop, Nat.add_zero]
theorem mixV_set (k : Nat) (P : List Vl) (j : Nat) (h : j < P.length) : (mixV k P j).set j (mkV (mkK k P j) P[j].names.length) = mixV k P (j + 1) := by
  have hl : ((mpl k P).take j).length = j := by rw [List.length_take, mpl_len]; omega
  rw [mixV, List.drop_eq_getElem_cons h, List.set_append_right _ _ (by omega), hl, Nat.sub_self, List.set_cons_zero, mixV, List.take_succ_eq_append_getElem (by rw [mpl_len]; exact h), mpl_at k P j h, List.append_assoc]
  rfl

theorem vlC_set : ∀ (P : List Vl) (nv : List Value) (j : Nat) (h : j < P.length) (hl : nv.length = P.length) (y : Vl), vlC (P.set j y) nv = (((vlC P nv).set (j * 4) (.int .i64 y.kind)).set (j * 4 + 1) (.int .i64 y.num)).set (j * 4 + 2) (.string y.text)
  | x :: P, u :: nv, 0, _, _, y => by simp [vlC, vl4]
  | x :: P, u :: nv, j + 1, h, hl, y => by
    have ih := vlC_set P nv j (by simpa using h) (by simpa using hl) y
    have e : ∀ (A : List Value) i v, (vl4 x u ++ A).set ((j + 1) * 4 + i) v = vl4 x u ++ A.set (j * 4 + i) v := fun A i v => by
      rw [List.set_append_right _ _ (by simp [vl4]; omega)]
      congr 2
      simp [vl4]; omega
    simp only [List.set_cons_succ, vlC]
    rw [ih]
    have e0 := e (vlC P nv) 0 (.int .i64 y.kind)
    simp only [Nat.add_zero] at e0
    rw [e0, e, e]
  | [], _, _, h, _, _ => absurd h (by simp)
  | _ :: _, [], _, _, hl, _ => by simp at hl

theorem OwnP.upd {w w' : World} {lo : Nat} {v : Value} {P : List Vl} {nv : List Value} (h : OwnP w lo v P nv) (j : Nat) (hj : j < P.length) (hj' : j < nv.length) (y : Vl)
    (hown : w'.ownsRow lo 57 4 v P.length (vlC (P.set j y) nv)) (hnm : w'.ownsRow lo 9 1 nv[j] y.names.length (y.names.map Value.string))
    (hoth : ∀ i, (hi : i < nv.length) → i ≠ j → ∀ q, nv[i].ownBlock = some q → w'.heap[q]? = w.heap[q]?) : OwnP w' lo v (P.set j y) nv :=
  ⟨by rw [List.length_set]; exact h.len, by rw [List.length_set]; exact hown, fun i hi hi' => by
    rw [List.getElem_set]
    split
    · rename_i e; subst e; exact hnm
    · rename_i e
      exact owns_blocks (h.names i (by simpa using hi) hi') (hoth i hi' (fun e' => e e'.symm)), h.apart, h.far⟩

/-- all of it lies in the blocks lo .. hi - 1 -/
def InP (v : Value) (nv : List Value) (hi : Nat) : Prop := (∀ q, v.ownBlock = some q → q < hi) ∧ ∀ j, (hj : j < nv.length) → ∀ q, nv[j].ownBlock = some q → q < hi

theorem Touch.wide {l h lo hi : Nat} {w w' : World} (t : Touch l h w w') (hd : (l = 0 ∧ h = 0) ∨ (lo ≤ l ∧ h ≤ hi)) : Touch lo hi w w' :=
  ⟨t.os, t.tape, t.output, t.size, fun k hk hd' => t.block k hk (by omega)⟩

/-- blocks beside these are as they were -/
def KeepP (w w' : World) (v : Value) (nv : List Value) : Prop := ∀ q, q < w.heap.size → v.ownBlock ≠ some q → (∀ j, (hj : j < nv.length) → nv[j].ownBlock ≠ some q) → w'.heap[q]? = w.heap[q]?

/-- a slice of names of the call's own: what marking it may touch -/
theorem ownS_of {w : World} {lo hi m c : Nat} {a : Option Addr} {ss : List ByteArray} (h : w.ownsRow lo 9 1 (.slice a m c) m (ss.map Value.string)) (hs : ∀ s ∈ ss, s.size ≤ maxLen) (hl : ss.length = m) (hb : ∀ q, (Value.slice a m c).ownBlock = some q → q < hi) (hh : hi ≤ w.heap.size) :
    ∃ l u, OwnS w l u a m c ss ∧ ((l = 0 ∧ u = 0) ∨ (lo ≤ l ∧ u ≤ hi ∧ l < u)) ∧ (∀ q, (Value.slice a m c).ownBlock ≠ some q → q < l ∨ u ≤ q) := by
  have hsz : ∀ j, j < m → (nth ss j).size ≤ maxLen := fun j hj => by
    rw [nth_eq _ j (by omega)]; exact hs _ (List.getElem_mem _)
  rcases h.2 with ⟨hv, h0⟩ | ⟨g, cap, cur, hv, hlo, hg, h4⟩
  · simp only [Value.slice.injEq] at hv
    obtain ⟨rfl, rfl, rfl⟩ := hv
    exact ⟨0, 0, ⟨⟨h.1, .inl ⟨rfl, h0⟩⟩, (fun x hx => by cases hx), hsz, Nat.zero_le _⟩, .inl ⟨rfl, rfl⟩, fun q _ => .inr (Nat.zero_le _)⟩
  · have hv' := hv
    simp only [Value.slice.injEq] at hv'
    obtain ⟨rfl, -, rfl⟩ := hv'
    have hgh : g < hi := hb g rfl
    refine ⟨g, g + 1, ⟨⟨h.1, .inr ⟨g, _, cur, rfl, Nat.le_refl _, hg, h4⟩⟩, (fun x hx => by cases hx; exact Nat.lt_succ_self _), hsz, by omega⟩, .inr ⟨hlo, hgh, Nat.lt_succ_self _⟩, fun q hq => ?_⟩
    have : g ≠ q := fun e => hq (by rw [← e]; rfl)
    omega

set_option maxRecDepth 100000 in
set_option maxHeartbeats 3200000 in
theorem markValueS_own (lo hi : Nat) (a : Option Addr) (n c : Nat) (P : List Vl) (nv : List Value) (k : Nat) (w : World) (h : OwnP w lo (.slice a n c) P nv) (hin : InP (.slice a n c) nv hi) (hh : hi ≤ w.heap.size) (hl : P.length = n) (ok : ∀ x ∈ P, okV x) (hk : mkK k P P.length ≤ 1073741824) :
    Calls Tryz.prog 35 #[.slice a n c, .int .i64 k] w fun e w' => e = .returned (.int .i64 (mkK k P P.length : Nat)) ∧ OwnP w' lo (.slice a n c) (mpl k P) nv ∧ Touch lo hi w w' ∧ KeepP w w' (.slice a n c) nv := by
  have Hl := hide hl
  have Hok := hide ok
  have HK := hide hk
  have hn : n ≤ 1073741824 := by
    have : mkK k P P.length = k + 3 * P.length + ((P.take P.length).map fun x => x.names.length).sum := rfl
    omega
  clear hl ok hk
  go_enter Tryz.func35, Tryz.ntmps35
  go_wp2
  go_loopw [1, 5] (fun q i wr => ∃ (j : Nat) (z : Int), j ≤ n ∧ i = .int .i64 j ∧ q = .int .i64 z ∧ z = ((mkK k P j : Nat) : Int) ∧ OwnP wr lo (.slice a n c) (mixV k P j) nv ∧ Touch lo hi w wr ∧ KeepP w wr (.slice a n c) nv) (fun _ i _ => n - (intOf i).toNat)
  case atStart => exact ⟨0, k, Nat.zero_le _, rfl, rfl, by rw [mkK_zero], by rw [mixV_zero]; exact h, Touch.refl _ _ _, fun _ _ _ _ => rfl⟩
  case round =>
    obtain ⟨j, z, hj, rfl, rfl, hz, OP, ht, hkp⟩ := hrel
    by_cases hlt : j < n
    · have hjl : j < P.length := by rw [unhide Hl]; exact hlt
      have hlm : (mixV k P j).length = P.length := mixV_len k P j (by omega)
      have hjm : j < (mixV k P j).length := by omega
      have hjn : j < nv.length := by rw [OP.len]; exact hjm
      have hz1 := mkK_succ k P j hjl
      have hz2 := mkK_mono k P (j + 1) (by omega)
      have hK := unhide HK
      have ilt : (j : Int) < (n : Int) := by omega
      have z0 : 0 ≤ z := by omega
      obtain ⟨g, hg⟩ : ∃ g, a = some ⟨g, 0, none⟩ := by
        rcases OP.own.2 with ⟨_, h0⟩ | ⟨g, cap, cur, hv, _⟩
        · omega
        · simp only [Value.slice.injEq] at hv; exact ⟨g, hv.1⟩
      subst hg
      have hgl := (OP.lts.1 g rfl).1
      have hgh : g < hi := hin.1 g rfl
      have hgw := (OP.lts.1 g rfl).2
      have eat := mixV_at k P j hjl hjm
      obtain ⟨x0, x1, x2, x3⟩ := vlC_at (mixV k P j) nv j hjm hjn
      have hown : wr.ownsRow lo 57 4 (.slice (some ⟨g, 0, none⟩) n c) n (vlC (mixV k P j) nv) := by have := OP.own; rwa [hlm, unhide Hl] at this
      have hcl := vlC_len (mixV k P j) nv OP.len
      have hnm := OP.names j hjm hjn
      rw [eat] at x0 x1 x2 hnm
      obtain ⟨an, cn, hu⟩ := owns_form hnm
      obtain ⟨m, hm⟩ : ∃ m, m = P[j].names.length := ⟨_, rfl⟩
      have hmok := unhide Hok P[j] (List.getElem_mem hjl)
      rw [← hm] at hu hnm
      have z1 : z + 3 + m ≤ 1073741824 := by omega
      have HZ := hide (show z + 3 + m = ((mkK k P (j + 1) : Nat) : Int) by omega)
      have far := OP.far j hjn
      rw [hu] at x3 hnm
      have c0 := (hown.cellAt (j * 4) (by omega)).trans x0
      have c1 := (hown.cellAt (j * 4 + 1) (by omega)).trans x1
      have cf := fun i => hown.frozenAt i
      have O2 := ((hown.stored (j * 4) (.int .i64 z)).1.stored (j * 4 + 1) (.int .i64 (z + 1))).1
      have T2 := (Touch.setCell (lo := g) (hi := g + 1) wr ⟨g, j * 4, none⟩ (.int .i64 z) (Nat.le_refl _) (Nat.lt_succ_self _)).trans (Touch.setCell (lo := g) (hi := g + 1) _ ⟨g, j * 4 + 1, none⟩ (.int .i64 (z + 1)) (Nat.le_refl _) (Nat.lt_succ_self _))
      have Hz := hide hz
      have Hlt := hide hlt
      have Hm := hide hm
      have Hu := hide hu
      have Hok2 := hide hmok
      have HOP := hide OP
      generalize P[j].kind = k0 at c0
      generalize P[j].num = k1 at c1
      generalize P[j].text = k2 at x2
      obtain ⟨nm, hnmE⟩ : ∃ nm, nm = P[j].names := ⟨_, rfl⟩
      rw [← hnmE] at hnm
      have Hnm := hide hnmE
      clear hz hz1 hz2 hK hm hu hmok OP hown x0 x1 hnmE eat
      go_wp2_with fail
      generalize (wr.setCell ⟨g, j * 4, none⟩ (.int .i64 z)).setCell ⟨g, j * 4 + 1, none⟩ (.int .i64 (z + 1)) = W2 at O2 T2 ⊢
      clear c0 c1 cf
      refine (markText_int (z + 1 + 1) W2 (by omega) (by omega)).mono ?_
      rintro e w3 ⟨rfl, hb3⟩
      have O3 := owns_blocks (w' := w3) O2 (fun q hq => hb3.block q (O2.lt q hq).2)
      have T3 := T2.trans (Touch.of_below (lo := g) (hi := g + 1) hb3 (Nat.le_refl _))
      clear O2 T2 hb3
      have c2 : w3.cell? ⟨g, j * 4 + 2, none⟩ = some (.string k2) := (O3.cellAt (j * 4 + 2) (by omega)).trans (by rw [List.getElem?_set_ne (by omega), List.getElem?_set_ne (by omega)]; exact x2)
      have f3 := fun i => O3.frozenAt i
      have O4 := (O3.stored (j * 4 + 2) (.string (markS (z + 1 + 1).toNat))).1
      have d3 : (w3.setCell ⟨g, j * 4 + 2, none⟩ (.string (markS (z + 1 + 1).toNat))).cell? ⟨g, j * 4 + 3, none⟩ = some (.slice an m cn) := (O4.cellAt (j * 4 + 3) (by omega)).trans (by rw [List.getElem?_set_ne (by omega), List.getElem?_set_ne (by omega), List.getElem?_set_ne (by omega)]; exact x3)
      have T4 := T3.trans (Touch.setCell (lo := g) (hi := g + 1) w3 ⟨g, j * 4 + 2, none⟩ (.string (markS (z + 1 + 1).toNat)) (Nat.le_refl _) (Nat.lt_succ_self _))
      clear T3 O3
      go_wp2_with fail
      generalize w3.setCell ⟨g, j * 4 + 2, none⟩ (.string (markS (z + 1 + 1).toNat)) = W4 at O4 d3 T4 ⊢
      clear c2 f3
      have hqne : ∀ q, (Value.slice an m cn).ownBlock = some q → q ≠ g := fun q hq e => by
        subst e
        exact far q (by rw [unhide Hu]; exact hq) rfl
      have N4 := owns_blocks (w' := W4) hnm (fun q hq => T4.block q (hnm.lt q hq).2 (by have := hqne q hq; omega))
      obtain ⟨l, u, OS, hlu, hsep⟩ := ownS_of (hi := hi) N4 (fun s hs => by have := (unhide Hok2).2.2 s (by rw [← unhide Hnm]; exact hs); unfold maxLen; omega) (by rw [unhide Hnm, unhide Hm]) (fun q hq => hin.2 j hjn q (by rw [unhide Hu]; exact hq)) (by have := T4.size; have := ht.size; omega)
      refine (markStringS_int l u _ _ _ _ (z + 1 + 1 + 1) W4 OS (by omega) (by omega)).mono ?_
      rintro e w5 ⟨rfl, OS5, T5⟩
      have HF : Hid (OwnP w5 lo (.slice (some ⟨g, 0, none⟩) n c) (mixV k P (j + 1)) nv) := hide (by
        have hz := unhide Hz
        have E : mixV k P (j + 1) = (mixV k P j).set j (mkV (mkK k P j) P[j].names.length) := (mixV_set k P j hjl).symm
        rw [E]
        refine (unhide HOP).upd j hjm hjn _ ?_ ?_ ?_
        · rw [hlm, unhide Hl, vlC_set _ _ _ hjm (unhide HOP).len]
          have e0 : (mkV (mkK k P j) P[j].names.length).kind = z := hz.symm
          have e1 : (mkV (mkK k P j) P[j].names.length).num = z + 1 := by show ((mkK k P j + 1 : Nat) : Int) = _; omega
          have e2 : (mkV (mkK k P j) P[j].names.length).text = markS (z + 1 + 1).toNat := by show markS (mkK k P j + 2) = _; rw [show (z + 1 + 1).toNat = mkK k P j + 2 by omega]
          rw [e0, e1, e2]
          refine owns_blocks O4 (fun q hq => ?_)
          have eq : g = q := by simpa [Value.ownBlock] using hq
          subst eq
          refine T5.block g (O4.lt g rfl).2 (hsep g (fun e => hqne g e rfl))
        · have e3 : (mkV (mkK k P j) P[j].names.length).names = marks (z + 1 + 1 + 1).toNat m := by show marks (mkK k P j + 3) P[j].names.length = _; rw [unhide Hm, show (z + 1 + 1 + 1).toNat = mkK k P j + 3 by omega]
          rw [e3, unhide Hu]
          have hlen : (marks (z + 1 + 1 + 1).toNat m).length = m := by simp [marks]
          rw [hlen]
          refine ⟨OS5.own.1, ?_⟩
          rcases OS5.own.2 with h2 | ⟨g2, cap2, cur2, hv2, h3, h4⟩
          · exact .inl h2
          · refine .inr ⟨g2, cap2, cur2, hv2, ?_, h4⟩
            have := (N4.lt g2 (by rw [hv2]; rfl)).1
            exact this
        · intro i hi' hne q hq
          have hq2 : (Value.slice an m cn).ownBlock ≠ some q := fun e => by
            rw [← unhide Hu] at e
            by_cases hij : i < j
            · exact (unhide HOP).apart i j hij hjn q hq e
            · exact (unhide HOP).apart j i (by omega) hi' q e hq
          have hqg : q ≠ g := fun e => by subst e; exact (unhide HOP).far i hi' q hq rfl
          have hqw := ((unhide HOP).lts.2 i hi' q hq).2
          exact (T5.block q (by have := T4.size; omega) (hsep q hq2)).trans (T4.block q hqw (by omega)))
      have TT := (ht.trans (T4.wide (.inr ⟨hgl, hgh⟩))).trans (T5.wide (by rcases hlu with e | e; exact .inl e; exact .inr ⟨e.1, e.2.1⟩))
      have HTT := hide TT
      have HKP : Hid (KeepP w w5 (.slice (some ⟨g, 0, none⟩) n c) nv) := hide (fun q hq h1 h2 => by
        have hqw := Nat.lt_of_lt_of_le hq ht.size
        have hqg : q ≠ g := fun e => h1 (by rw [e]; rfl)
        refine ((T5.block q (by have := T4.size; omega) (hsep q (fun e => h2 j hjn (by rw [unhide Hu]; exact e)))).trans (T4.block q hqw (by omega))).trans (hkp q hq h1 h2))
      clear O4 d3 T4 T5 OS OS5 N4 hnm HOP TT hlu hsep far x2 x3
      go_wp2_with fail
      go_roundw
      case rel => exact ⟨j + 1, z + 1 + 1 + 1 + m, unhide Hlt, by go_num, by go_num, by have := unhide HZ; omega, unhide HF, unhide HTT, unhide HKP⟩
      case measure => have := unhide Hlt; simp [intOf]; omega
    · have e : j = n := by omega
      subst e
      go_wp2
      go_ret
      rw [← unhide Hl] at hz OP
      rw [mixV_full] at OP
      exact ⟨by rw [hz]; rfl, by rw [← unhide Hl]; exact OP, ht, hkp⟩

end Go.Proofs.YtpbopjgmiaoomaaGreatDoor

namespace Go.Proofs.YtpbopjgmiaoomaaGreatDoor
open Go.RowKit
set_option linter.unusedVariables false

theorem marks_len (k n : Nat) : (marks k n).length = n := by simp [marks]

set_option maxRecDepth 100000 in
set_option maxHeartbeats 3200000 in
theorem heldValueS_own (lo : Nat) (a : Option Addr) (n c : Nat) (P : List Vl) (nv : List Value) (k : Nat) (w : World) (h : OwnP w lo (.slice a n c) (mpl k P) nv) (hl : P.length = n) (hk : mkK k P P.length ≤ 1073741824) :
    Calls Tryz.prog 37 #[.slice a n c, .int .i64 k] w fun e w' => e = .returned (.int .i64 (mkK k P P.length : Nat)) ∧ Below w.heap.size w w' := by
  have Hl := hide hl
  have HK := hide hk
  have hn : n ≤ 1073741824 := by
    have : mkK k P P.length = k + 3 * P.length + ((P.take P.length).map fun x => x.names.length).sum := rfl
    omega
  clear hl hk
  go_enter Tryz.func37, Tryz.ntmps37
  go_wp2
  go_loopw [1, 5] (fun q i wr => ∃ (j : Nat) (z : Int), j ≤ n ∧ i = .int .i64 j ∧ q = .int .i64 z ∧ z = ((mkK k P j : Nat) : Int) ∧ Below w.heap.size w wr) (fun _ i _ => n - (intOf i).toNat)
  case atStart => exact ⟨0, k, Nat.zero_le _, rfl, rfl, by rw [mkK_zero], Below.refl _ _⟩
  case round =>
    obtain ⟨j, z, hj, rfl, rfl, hz, hb⟩ := hrel
    by_cases hlt : j < n
    · have hjl : j < P.length := by rw [unhide Hl]; exact hlt
      have hml := mpl_len k P
      have hjm : j < (mpl k P).length := by omega
      have OP := h.blocks (w' := wr) (fun k _ hk' => hb.block k hk')
      have hjn : j < nv.length := by rw [OP.len]; exact hjm
      have hz1 := mkK_succ k P j hjl
      have hz2 := mkK_mono k P (j + 1) (by omega)
      have hK := unhide HK
      have ilt : (j : Int) < (n : Int) := by omega
      have z0 : 0 ≤ z := by omega
      obtain ⟨g, hg⟩ : ∃ g, a = some ⟨g, 0, none⟩ := by
        rcases OP.own.2 with ⟨_, h0⟩ | ⟨g, cap, cur, hv, _⟩
        · rw [hml, unhide Hl] at h0; omega
        · simp only [Value.slice.injEq] at hv; exact ⟨g, hv.1⟩
      subst hg
      have hgw := (OP.lts.1 g rfl).2
      have hgw0 := (h.lts.1 g rfl).2
      have hown : wr.ownsRow lo 57 4 (.slice (some ⟨g, 0, none⟩) n c) n (vlC (mpl k P) nv) := by have := OP.own; rwa [hml, unhide Hl] at this
      obtain ⟨x0, x1, x2, x3⟩ := vlC_at (mpl k P) nv j hjm hjn
      have hnm := OP.names j hjm hjn
      have eat := mpl_at k P j hjl hjm
      rw [eat] at x0 x1 x2 hnm
      obtain ⟨m, hm⟩ : ∃ m, m = P[j].names.length := ⟨_, rfl⟩
      rw [← hm] at x0 x1 x2 hnm
      have e0 : (mkV (mkK k P j) m).kind = z := hz.symm
      have e1 : (mkV (mkK k P j) m).num = z + 1 := by show ((mkK k P j + 1 : Nat) : Int) = _; omega
      have e2 : (mkV (mkK k P j) m).text = markS (z + 1 + 1).toNat := by show markS (mkK k P j + 2) = _; rw [show (z + 1 + 1).toNat = mkK k P j + 2 by omega]
      have e3 : (mkV (mkK k P j) m).names = marks (z + 1 + 1 + 1).toNat m := by show marks (mkK k P j + 3) m = _; rw [show (z + 1 + 1 + 1).toNat = mkK k P j + 3 by omega]
      rw [e0] at x0
      rw [e1] at x1
      rw [e2] at x2
      rw [e3, marks_len] at hnm
      obtain ⟨an, cn, hu⟩ := owns_form hnm
      rw [hu] at x3 hnm
      have c0 := (hown.cellAt (j * 4) (by omega)).trans x0
      have c1 := (hown.cellAt (j * 4 + 1) (by omega)).trans x1
      have c2 := (hown.cellAt (j * 4 + 2) (by omega)).trans x2
      have c3 := (hown.cellAt (j * 4 + 3) (by omega)).trans x3
      have z1 : z + 3 + m ≤ 1073741824 := by omega
      have HZ := hide (show z + 3 + m = ((mkK k P (j + 1) : Nat) : Int) by omega)
      have ST : Strs wr an m cn (marks (z + 1 + 1 + 1).toNat m) := Strs.of_owns hnm (marks_sizes _ _ (by omega))
      have Hlt := hide hlt
      clear hz hz1 hz2 hK hm e0 e1 e2 e3 x0 x1 x2 x3 hown hnm hu eat OP
      go_wp2_with fail
      go_region_held3 (fun w' => w'.cell? ⟨g, j * 4 + 2, none⟩ = some (.string (markS (z + 1 + 1).toNat))) (go_keep)
        ((go_at_call 65; refine (markText_int _ _ (by omega) (by omega)).mono ?_; rintro e w1 ⟨rfl, hb1⟩; have q2 := (hb1.cell (p := ⟨g, j * 4 + 2, none⟩) hgw).trans c2; have q3 := (hb1.cell (p := ⟨g, j * 4 + 3, none⟩) hgw).trans c3))
      all_goals
        have ST1 := ST.below (show Below wr.heap.size wr w1 from (Below.refl _ _).drew.trans hb1) (Nat.le_refl _)
        go_wp2_with (go_at_call 67; refine (heldStringS_int _ _ _ (z + 1 + 1 + 1) w1 ST1 (by omega) (by omega)).mono ?_; rintro e w2 ⟨rfl, hb2⟩; have hneg : ¬ (z + 1 + 1 + 1 + (m : Int) < 0) := (by omega))
        go_roundw
        case rel => exact ⟨j + 1, z + 1 + 1 + 1 + m, unhide Hlt, by go_num, by go_num, by have := unhide HZ; omega, (hb.drew.trans (hb1.mono hb.size)).trans (hb2.mono (by have h1 : wr.heap.size ≤ w1.heap.size := hb1.size; have := hb.size; omega))⟩
        case measure => have := unhide Hlt; simp [intOf]; omega
    · have e : j = n := by omega
      subst e
      go_wp2
      go_ret
      rw [← unhide Hl] at hz
      exact ⟨by rw [hz]; rfl, hb⟩

def mkI (k j : Nat) : Is1 := ⟨((k + 2 * j : Nat) : Int), ((k + 2 * j + 1 : Nat) : Int)⟩
def marksI (k n : Nat) : List Is1 := (List.range n).map (mkI k)
def mixI (I : List Is1) (k j : Nat) : List Is1 := marksI k j ++ I.drop j

theorem marksI_len (k n : Nat) : (marksI k n).length = n := by simp [marksI]
theorem marksI_succ (k n : Nat) : marksI k (n + 1) = marksI k n ++ [mkI k n] := by simp [marksI, List.range_succ]
theorem mixI_zero (I : List Is1) (k : Nat) : mixI I k 0 = I := by simp [mixI, marksI]
theorem mixI_full (I : List Is1) (k : Nat) : mixI I k I.length = marksI k I.length := by simp [mixI]
theorem mixI_len (I : List Is1) (k j : Nat) (h : j ≤ I.length) : (mixI I k j).length = I.length := by
  rw [mixI, List.length_append, marksI_len, List.length_drop]; omega
theorem mixI_set (I : List Is1) (k j : Nat) (h : j < I.length) : (mixI I k j).set j (mkI k j) = mixI I k (j + 1) := by
  rw [mixI, List.drop_eq_getElem_cons h, List.set_append_right _ _ (by rw [marksI_len]; exact Nat.le_refl _), marksI_len, Nat.sub_self, List.set_cons_zero, mixI, marksI_succ, List.append_assoc]
  rfl

theorem inC_set : ∀ (I : List Is1) (j : Nat) (h : j < I.length) (y : Is1), inC (I.set j y) = ((inC I).set (j * 2) (.int .i64 y.op)).set (j * 2 + 1) (.int .i64 y.arg)
  | i :: I, 0, _, y => by simp [inC]
  | i :: I, j + 1, h, y => by
    have ih := inC_set I j (by simpa using h) y
    have e : ∀ (A : List Value) q v, ([Value.int .i64 i.op, .int .i64 i.arg] ++ A).set ((j + 1) * 2 + q) v = [Value.int .i64 i.op, .int .i64 i.arg] ++ A.set (j * 2 + q) v := fun A q v => by
      rw [List.set_append_right _ _ (by simp; omega)]
      congr 2
      simp; omega
    have c : ∀ x J, inC (x :: J) = [Value.int .i64 x.op, .int .i64 x.arg] ++ inC J := fun x J => by simp [inC]
    rw [List.set_cons_succ, c, c, ih]
    have e0 := e (inC I) 0 (.int .i64 y.op)
    simp only [Nat.add_zero] at e0
    rw [e0, e]

set_option maxRecDepth 100000 in
set_option maxHeartbeats 3200000 in
theorem markInsS_own (lo hi : Nat) (a : Option Addr) (n c : Nat) (I : List Is1) (x : Int) (w : World) (h : w.ownsRow lo 62 2 (.slice a n c) n (inC I)) (hin : ∀ q, (Value.slice a n c).ownBlock = some q → q < hi) (hl : I.length = n) (hx : 0 ≤ x) (hk : x + 2 * n ≤ 1073741824) :
    Calls Tryz.prog 36 #[.slice a n c, .int .i64 x] w fun e w' => e = .returned (.int .i64 (x + 2 * n)) ∧ w'.ownsRow lo 62 2 (.slice a n c) n (inC (marksI x.toNat n)) ∧ Touch lo hi w w' := by
  obtain ⟨k, rfl⟩ := Int.eq_ofNat_of_zero_le hx
  rw [Int.toNat_natCast]
  have Hl := hide hl
  clear hl
  go_enter Tryz.func36, Tryz.ntmps36
  go_wp2
  go_loopw [1, 5] (fun q i wr => ∃ (j : Nat) (z : Int), j ≤ n ∧ i = .int .i64 j ∧ q = .int .i64 z ∧ z = ((k + 2 * j : Nat) : Int) ∧ wr.ownsRow lo 62 2 (.slice a n c) n (inC (mixI I k j)) ∧ Touch lo hi w wr) (fun _ i _ => n - (intOf i).toNat)
  case atStart => exact ⟨0, k, Nat.zero_le _, rfl, rfl, by simp, by rw [mixI_zero]; exact h, Touch.refl _ _ _⟩
  case round =>
    obtain ⟨j, z, hj, rfl, rfl, hz, hown, ht⟩ := hrel
    by_cases hlt : j < n
    · have hjl : j < I.length := by rw [unhide Hl]; exact hlt
      have hlm : (mixI I k j).length = I.length := mixI_len I k j (by omega)
      have hjm : j < (mixI I k j).length := by omega
      have ilt : (j : Int) < (n : Int) := by omega
      have z0 : 0 ≤ z := by omega
      have z1 : z + 2 ≤ 1073741824 := by omega
      obtain ⟨g, hg⟩ : ∃ g, a = some ⟨g, 0, none⟩ := by
        rcases hown.2 with ⟨_, h0⟩ | ⟨g, cap, cur, hv, _⟩
        · omega
        · simp only [Value.slice.injEq] at hv; exact ⟨g, hv.1⟩
      subst hg
      have hgl := (hown.lt g rfl).1
      have hgh : g < hi := hin g rfl
      obtain ⟨x0, x1⟩ := inC_at (mixI I k j) j hjm
      have c0 := (hown.cellAt (j * 2) (by omega)).trans x0
      have c1 := (hown.cellAt (j * 2 + 1) (by omega)).trans x1
      have cf := fun i => hown.frozenAt i
      have HO := hide ((hown.stored (j * 2) (.int .i64 z)).1.stored (j * 2 + 1) (.int .i64 (z + 1))).1
      have T2 := (ht.trans (Touch.setCell (lo := lo) (hi := hi) wr ⟨g, j * 2, none⟩ (.int .i64 z) hgl hgh)).trans (Touch.setCell (lo := lo) (hi := hi) _ ⟨g, j * 2 + 1, none⟩ (.int .i64 (z + 1)) hgl hgh)
      have Hz := hide hz
      have Hlt := hide hlt
      generalize (mixI I k j)[j].op = y0 at c0
      generalize (mixI I k j)[j].arg = y1 at c1
      clear hz hown x0 x1 ht
      go_wp2_with fail
      go_roundw
      case rel =>
        refine ⟨j + 1, z + 1 + 1, unhide Hlt, by go_num, by go_num, by have := unhide Hz; omega, ?_, T2⟩
        have hz := unhide Hz
        rw [← mixI_set I k j hjl, inC_set _ _ hjm]
        have e0 : (mkI k j).op = z := hz.symm
        have e1 : (mkI k j).arg = z + 1 := by show ((k + 2 * j + 1 : Nat) : Int) = _; omega
        rw [e0, e1]
        exact unhide HO
      case measure => have := unhide Hlt; simp [intOf]; omega
    · have e : j = n := by omega
      subst e
      go_wp2
      go_ret
      have hM : mixI I k j = marksI k j := by have := mixI_full I k; rwa [unhide Hl] at this
      rw [hM] at hown
      exact ⟨by rw [hz]; push_cast; rfl, hown, ht⟩

set_option maxRecDepth 100000 in
set_option maxHeartbeats 3200000 in
theorem heldInsS_own (lo : Nat) (a : Option Addr) (n c : Nat) (x : Int) (w : World) (h : w.ownsRow lo 62 2 (.slice a n c) n (inC (marksI x.toNat n))) (hx : 0 ≤ x) (hk : x + 2 * n ≤ 1073741824) :
    Calls Tryz.prog 38 #[.slice a n c, .int .i64 x] w fun e w' => e = .returned (.int .i64 (x + 2 * n)) ∧ Below w.heap.size w w' := by
  obtain ⟨k, rfl⟩ := Int.eq_ofNat_of_zero_le hx
  rw [Int.toNat_natCast] at h
  go_enter Tryz.func38, Tryz.ntmps38
  go_wp2
  go_loopw [1, 5] (fun q i wr => ∃ (j : Nat) (z : Int), j ≤ n ∧ i = .int .i64 j ∧ q = .int .i64 z ∧ z = ((k + 2 * j : Nat) : Int) ∧ wr = w) (fun _ i _ => n - (intOf i).toNat)
  case atStart => exact ⟨0, k, Nat.zero_le _, rfl, rfl, by simp, rfl⟩
  case round =>
    obtain ⟨j, z, hj, rfl, rfl, hz, hw⟩ := hrel
    by_cases hlt : j < n
    · have ilt : (j : Int) < (n : Int) := by omega
      have hjm : j < (marksI k n).length := by rw [marksI_len]; exact hlt
      have z0 : 0 ≤ z := by omega
      have z1 : z + 2 ≤ 1073741824 := by omega
      obtain ⟨g, hg⟩ : ∃ g, a = some ⟨g, 0, none⟩ := by
        rcases h.2 with ⟨_, h0⟩ | ⟨g, cap, cur, hv, _⟩
        · omega
        · simp only [Value.slice.injEq] at hv; exact ⟨g, hv.1⟩
      subst hg
      obtain ⟨x0, x1⟩ := inC_at (marksI k n) j hjm
      have em : (marksI k n)[j] = mkI k j := by simp [marksI]
      rw [em] at x0 x1
      have e0 : (mkI k j).op = z := hz.symm
      have e1 : (mkI k j).arg = z + 1 := by show ((k + 2 * j + 1 : Nat) : Int) = _; omega
      rw [e0] at x0
      rw [e1] at x1
      have c0 := (h.cellAt (j * 2) (by omega)).trans x0
      have c1 := (h.cellAt (j * 2 + 1) (by omega)).trans x1
      rw [← hw] at c0 c1
      have Hw := hide hw
      have Hz := hide hz
      have Hlt := hide hlt
      clear em e0 e1 hz x0 x1 hw
      go_wp2_with fail
      go_roundw
      case rel => exact ⟨j + 1, z + 1 + 1, unhide Hlt, by go_num, by go_num, by have := unhide Hz; omega, unhide Hw⟩
      case measure => have := unhide Hlt; simp [intOf]; omega
    · have e : j = n := by omega
      subst e
      have Hw := hide hw
      clear hw
      go_wp2
      go_ret
      exact ⟨by rw [hz]; push_cast; rfl, by rw [unhide Hw]; exact Below.refl _ _⟩

end Go.Proofs.YtpbopjgmiaoomaaGreatDoor

namespace Go.Proofs.YtpbopjgmiaoomaaGreatDoor
open Go.RowKit
set_option linter.unusedVariables false

theorem rowTouchN {w w' : World} {b lo hi : Nat} {cs : Array Value} {t : TypeId} (h : Row w b cs t) (T : Touch lo hi w w') (hd : b < lo ∨ hi ≤ b) : Row w' b cs t := ⟨(T.block b h.lt hd).trans h.out⟩

theorem own_belowN {w w' : World} {base : Nat} {e : TypeId} {size : Nat} {v : Value} {n B : Nat} {xs : List Value} (h : w.ownsRow base e size v n xs) (hb : Below B w w') (hB : w.heap.size ≤ B) : w'.ownsRow base e size v n xs :=
  owns_blocks h (fun q hq => hb.block q (Nat.lt_of_lt_of_le (h.lt q hq).2 hB))

/-- a row of the call's own: what marking it may touch -/
theorem owns_tight {w : World} {lo hi n c : Nat} {a : Option Addr} {e : TypeId} {size : Nat} {xs : List Value} (h : w.ownsRow lo e size (.slice a n c) n xs) (hb : ∀ q, (Value.slice a n c).ownBlock = some q → q < hi) :
    ∃ l u, w.ownsRow l e size (.slice a n c) n xs ∧ (∀ q, (Value.slice a n c).ownBlock = some q → q < u) ∧ ((l = 0 ∧ u = 0) ∨ (lo ≤ l ∧ u ≤ hi)) ∧ ∀ q, (Value.slice a n c).ownBlock ≠ some q → q < l ∨ u ≤ q := by
  rcases h.2 with ⟨hv, h0⟩ | ⟨g, cap, cur, hv, hlo, hg, h4⟩
  · refine ⟨0, 0, ⟨h.1, .inl ⟨hv, h0⟩⟩, fun q hq => ?_, .inl ⟨rfl, rfl⟩, fun q _ => .inr (Nat.zero_le _)⟩
    rw [hv] at hq; cases hq
  · have hb' := hb g (by rw [hv]; rfl)
    refine ⟨g, g + 1, ⟨h.1, .inr ⟨g, cap, cur, hv, Nat.le_refl _, hg, h4⟩⟩, fun q hq => ?_, .inr ⟨hlo, hb'⟩, fun q hq => ?_⟩
    · rw [hv] at hq
      have : g = q := by simpa [Value.ownBlock] using hq
      omega
    · have : g ≠ q := fun e => hq (by rw [hv, ← e]; rfl)
      omega

/-- a code of the call's own, in the blocks lo .. hi - 1 -/
structure OwnC (w : World) (lo hi : Nat) (x : Option Addr) (n cx : Nat) (y : Option Addr) (m cy : Nat) (P : List Vl) (nv : List Value) (I : List Is1) : Prop where
  pool : OwnP w lo (.slice x n cx) P nv
  ins : w.ownsRow lo 62 2 (.slice y m cy) m (inC I)
  apart : ∀ q, (Value.slice y m cy).ownBlock = some q → (Value.slice x n cx).ownBlock ≠ some q ∧ ∀ j, (hj : j < nv.length) → nv[j].ownBlock ≠ some q
  inP : InP (.slice x n cx) nv hi
  inI : ∀ q, (Value.slice y m cy).ownBlock = some q → q < hi
  top : hi ≤ w.heap.size
  np : P.length = n
  ni : I.length = m

theorem OwnC.touch {w w' : World} {lo hi l u n cx m cy : Nat} {x y : Option Addr} {P : List Vl} {nv : List Value} {I : List Is1} (h : OwnC w lo hi x n cx y m cy P nv I) (T : Touch l u w w') (hd : hi ≤ l ∨ u ≤ lo) : OwnC w' lo hi x n cx y m cy P nv I := by
  have hk : ∀ q, lo ≤ q → q < hi → w'.heap[q]? = w.heap[q]? := fun q h1 h2 => T.block q (Nat.lt_of_lt_of_le h2 h.top) (by omega)
  refine ⟨⟨h.pool.len, owns_blocks h.pool.own (fun q hq => hk q (h.pool.lts.1 q hq).1 (h.inP.1 q hq)), fun j hj hj' => owns_blocks (h.pool.names j hj hj') (fun q hq => hk q (h.pool.lts.2 j hj' q hq).1 (h.inP.2 j hj' q hq)), h.pool.apart, h.pool.far⟩, owns_blocks h.ins (fun q hq => hk q (h.ins.lt q hq).1 (h.inI q hq)), h.apart, h.inP, h.inI, Nat.le_trans h.top T.size, h.np, h.ni⟩

theorem OwnC.below {w w' : World} {lo hi B n cx m cy : Nat} {x y : Option Addr} {P : List Vl} {nv : List Value} {I : List Is1} (h : OwnC w lo hi x n cx y m cy P nv I) (hb : Below B w w') (hB : hi ≤ B) : OwnC w' lo hi x n cx y m cy P nv I :=
  h.touch (l := hi) (u := w.heap.size + hi) ⟨hb.os, hb.tape, hb.output, hb.size, fun k hk hd => hb.block k (by omega)⟩ (.inl (Nat.le_refl _))

/-- what a code is like that is small -/
def okC3 (P : List Vl) (I : List Is1) : Prop := P.length ≤ 65535 ∧ (∀ x ∈ P, okV x) ∧ I.length ≤ 65535

theorem OwnC.vls {w : World} {lo hi n cx m cy : Nat} {x y : Option Addr} {P : List Vl} {nv : List Value} {I : List Is1} (h : OwnC w lo hi x n cx y m cy P nv I) (ok : okC3 P I) : Vls w x n cx P ∧ Iss w y m cy I :=
  ⟨h.pool.vls h.np (by rw [← h.np]; exact ok.1) ok.2.1, iss_of_owns h.ins h.ni (by rw [← h.ni]; exact ok.2.2)⟩

theorem mkK_bound (P : List Vl) (ok : ∀ x ∈ P, okV x) (h : P.length ≤ 65535) : mkK 1 P P.length ≤ 20000000 := by
  have hs : ∀ L : List Vl, (∀ x ∈ L, okV x) → (L.map fun x => x.names.length).sum ≤ 255 * L.length := by
    intro L
    induction L with
    | nil => intro _; simp
    | cons x L ih =>
      intro hL
      have h1 := ih (fun y hy => hL y (List.mem_cons_of_mem _ hy))
      have h2 := (hL x (List.mem_cons_self ..)).2.1
      simp only [List.map_cons, List.sum_cons, List.length_cons]
      omega
  have := hs P ok
  rw [mkK, List.take_length]
  omega

/-- the mark behind a code -/
def mkC (P : List Vl) (m : Nat) : Int := (mkK 1 P P.length : Nat) + 2 * (m : Int)

set_option maxRecDepth 100000 in
set_option maxHeartbeats 1600000 in
theorem markCode_own (lo hi n cx m cy : Nat) (x y : Option Addr) (s : Int) (P : List Vl) (nv : List Value) (I : List Is1) (w : World) (h : OwnC w lo hi x n cx y m cy P nv I) (ok : okC3 P I) :
    Calls Tryz.prog 11 #[.agg #[.slice x n cx, .int .i64 s, .slice y m cy], .int .i64 1] w fun e w' => e = .returned (.int .i64 (mkC P m)) ∧ OwnC w' lo hi x n cx y m cy (mpl 1 P) nv (marksI (mkK 1 P P.length) m) ∧ Touch lo hi w w' := by
  have hb := mkK_bound P ok.2.1 ok.1
  have hm : m ≤ 65535 := by rw [← h.ni]; exact ok.2.2
  have R0 := Row.new w #[.slice x n cx, .int .i64 s, .slice y m cy] 31
  have B0 := (Below.refl w.heap.size w).alloc (Nat.le_refl _) (.cells #[.slice x n cx, .int .i64 s, .slice y m cy] 31)
  have h0 := h.below B0 h.top
  have Hok := hide ok.2.1
  have Htop := h.top
  have Hnp := hide h.np
  have HMK := hide (show mkC P m = ((mkK 1 P P.length : Nat) : Int) + 2 * (m : Int) from rfl)
  go_enter Tryz.func11, Tryz.ntmps11
  go_wp2_with fail
  refine (markValueS_own lo hi x n cx P nv 1 _ h0.pool h0.inP h0.top (unhide Hnp) (unhide Hok) (by omega)).mono ?_
  rintro e w2 ⟨rfl, OP2, T2, KP2⟩
  have OI2 := owns_blocks (w' := w2) h0.ins (fun q hq => KP2 q (h0.ins.lt q hq).2 (h0.apart q hq).1 (h0.apart q hq).2)
  have R2 := rowTouchN R0 T2 (.inr (by omega))
  obtain ⟨q0, q1, q2⟩ := rowC R2
  generalize hMM : mkK 1 P P.length = MM at hb HMK ⊢
  have HMM := hide hMM
  clear hMM
  go_wp2_with fail
  obtain ⟨l, u, OI3, hu3, hlu, hsep⟩ := owns_tight OI2 h.inI
  refine (markInsS_own l u y m cy I _ w2 OI3 hu3 h.ni (by omega) (by omega)).mono ?_
  rintro e w3 ⟨rfl, OI4, T4⟩
  rw [Int.toNat_natCast] at OI4
  go_wp2_with fail
  go_ret
  refine ⟨by rw [unhide HMK]; rfl, ⟨OP2.upto (fun q hq => ?_) (fun j hj q hq => ?_), ?_, h.apart, h.inP, h.inI, ?_, by rw [mpl_len]; exact h.np, marksI_len _ _⟩, ?_⟩
  · refine T4.block q (OP2.lts.1 q hq).2 (hsep q (fun e => (h.apart q e).1 hq))
  · refine T4.block q (OP2.lts.2 j hj q hq).2 (hsep q (fun e => (h.apart q e).2 j hj hq))
  · rw [unhide HMM]
    refine ⟨OI4.1, ?_⟩
    rcases OI4.2 with h2 | ⟨g2, cap2, cur2, hv2, h3, h4⟩
    · exact .inl h2
    · exact .inr ⟨g2, cap2, cur2, hv2, (h.ins.lt g2 (by rw [hv2]; rfl)).1, h4⟩
  · have z1 := B0.size
    have z2 := T2.size
    have z3 := T4.size
    omega
  · exact ((Touch.of_below B0 (Nat.le_refl _)).trans T2).trans (T4.wide hlu)

set_option maxRecDepth 100000 in
set_option maxHeartbeats 1600000 in
theorem heldCode_own (lo hi n cx m cy : Nat) (x y : Option Addr) (s : Int) (P : List Vl) (nv : List Value) (w : World) (h : OwnC w lo hi x n cx y m cy (mpl 1 P) nv (marksI (mkK 1 P P.length) m)) (ok : ∀ x ∈ P, okV x) (hp : P.length ≤ 65535) (hm : m ≤ 65535) :
    Calls Tryz.prog 12 #[.agg #[.slice x n cx, .int .i64 s, .slice y m cy], .int .i64 1] w fun e w' => e = .returned (.int .i64 (mkC P m)) ∧ Below w.heap.size w w' := by
  have hb := mkK_bound P ok hp
  have R0 := Row.new w #[.slice x n cx, .int .i64 s, .slice y m cy] 31
  have B0 := (Below.refl w.heap.size w).alloc (Nat.le_refl _) (.cells #[.slice x n cx, .int .i64 s, .slice y m cy] 31)
  have h0 := h.below B0 h.top
  have HMK := hide (show mkC P m = ((mkK 1 P P.length : Nat) : Int) + 2 * (m : Int) from rfl)
  have hnp : P.length = n := by have := h.np; rwa [mpl_len] at this
  have Hnp := hide hnp
  clear hnp
  go_enter Tryz.func12, Tryz.ntmps12
  go_wp2_with fail
  refine (heldValueS_own lo x n cx P nv 1 _ h0.pool (unhide Hnp) (by omega)).mono ?_
  rintro e w2 ⟨rfl, hb2⟩
  have R2 := R0.after hb2 (Nat.le_refl _)
  obtain ⟨q0, q1, q2⟩ := rowC R2
  have OI2 := own_belowN h0.ins hb2 (Nat.le_refl _)
  generalize hMM : mkK 1 P P.length = MM at hb HMK OI2
  rw [hMM] at *
  have hn1 : ¬ (((MM : Nat) : Int) < 0) := by omega
  have hn2 : ¬ (((MM : Nat) : Int) + 2 * (m : Int) < 0) := by omega
  go_wp2_with (go_at_call 38; refine (heldInsS_own lo y m cy _ w2 (by rw [Int.toNat_natCast]; exact OI2) (by omega) (by omega)).mono ?_; rintro e w3 ⟨rfl, hb3⟩)
  go_ret
  exact ⟨by rw [unhide HMK]; rfl, (B0.trans (hb2.mono B0.size)).trans (hb3.mono (by have := B0.size; have := hb2.size; omega))⟩

end Go.Proofs.YtpbopjgmiaoomaaGreatDoor

namespace Go.Proofs.YtpbopjgmiaoomaaGreatDoor
open Go.RowKit
set_option linter.unusedVariables false

set_option maxRecDepth 100000 in
set_option maxHeartbeats 1600000 in
theorem eqValue_same (x : Vl) (an an' : Option Addr) (nn cn cn' : Nat) (w : World)
    (h1 : Strs w an nn cn x.names) (h1' : Strs w an' nn cn' x.names) :
    Calls Tryz.prog 61 #[.agg #[.int .i64 x.kind, .int .i64 x.num, .string x.text, .slice an nn cn], .agg #[.int .i64 x.kind, .int .i64 x.num, .string x.text, .slice an' nn cn']] w fun e w' => e = .returned (.bool true) ∧ Below w.heap.size w w' := by
  have B0 := ((Below.refl w.heap.size w).alloc (Nat.le_refl _) (.cells #[.int .i64 x.kind, .int .i64 x.num, .string x.text, .slice an nn cn] 57)).alloc (by simp) (.cells #[.int .i64 x.kind, .int .i64 x.num, .string x.text, .slice an' nn cn'] 57)
  go_enter Tryz.func61, Tryz.ntmps61
  go_wp2_with fail
  refine (eqStringS_same _ _ _ _ _ _ _ (h1.below B0 (Nat.le_refl _)) (h1'.below B0 (Nat.le_refl _))).mono ?_
  rintro e w1 ⟨rfl, hb1⟩
  go_wp2_with fail
  go_ret
  exact ⟨rfl, B0.trans (hb1.mono (by simp; omega))⟩

set_option maxRecDepth 100000 in
set_option maxHeartbeats 1600000 in
theorem eqValueS_same (a a' : Option Addr) (n c c' : Nat) (N : List Vl) (w : World) (h : Vls w a n c N) (h' : Vls w a' n c' N) :
    Calls Tryz.prog 27 #[.slice a n c, .slice a' n c'] w fun e w' => e = .returned (.bool true) ∧ Below w.heap.size w w' := by
  have hn := h.small
  have Hl := hide h.len
  go_enter Tryz.func27, Tryz.ntmps27
  go_wp2_with fail
  go_loopw [5] (fun i wr => ∃ k : Nat, k ≤ n ∧ i = .int .i64 k ∧ Below w.heap.size w wr) (fun i _ => n - (intOf i).toNat)
  case atStart => exact ⟨0, Nat.zero_le _, rfl, Below.refl _ _⟩
  case round =>
    obtain ⟨k, hk, rfl, hb⟩ := hrel
    by_cases hlt : k < n
    · have hkl : k < N.length := by rw [unhide Hl]; exact hlt
      obtain ⟨b, off, rfl, hbl, an, nn, cn, c0, c1, c2, c3, hN⟩ := (h.below hb (Nat.le_refl _)).cells k hkl
      obtain ⟨b', off', rfl, hbl', an', nn', cn', d0, d1, d2, d3, hN'⟩ := (h'.below hb (Nat.le_refl _)).cells k hkl
      have i3 : (k : Int) < (n : Int) := by omega
      generalize N[k] = x at c0 c1 c2 c3 hN d0 d1 d2 d3 hN'
      obtain rfl : nn = nn' := by rw [hN.len, hN'.len]
      have Hlt := hide hlt
      clear hlt h h'
      go_wp2_with fail
      have D1 : Below wr.heap.size wr wr.drew := (Below.refl _ _).drew
      have q1 : wr.drew.cell? ⟨b, off + k * 4, none⟩ = some (.int .i64 x.kind) ∧ wr.drew.cell? ⟨b, off + k * 4 + 1, none⟩ = some (.int .i64 x.num) ∧ wr.drew.cell? ⟨b, off + k * 4 + 2, none⟩ = some (.string x.text) ∧ wr.drew.cell? ⟨b, off + k * 4 + 3, none⟩ = some (.slice an nn cn) ∧ wr.drew.cell? ⟨b', off' + k * 4, none⟩ = some (.int .i64 x.kind) ∧ wr.drew.cell? ⟨b', off' + k * 4 + 1, none⟩ = some (.int .i64 x.num) ∧ wr.drew.cell? ⟨b', off' + k * 4 + 2, none⟩ = some (.string x.text) ∧ wr.drew.cell? ⟨b', off' + k * 4 + 3, none⟩ = some (.slice an' nn cn') := ⟨c0, c1, c2, c3, d0, d1, d2, d3⟩
      go_region_held3 (fun w' => w'.cell? ⟨b, off + k * 4, none⟩ = some (.int .i64 x.kind) ∧ w'.cell? ⟨b, off + k * 4 + 1, none⟩ = some (.int .i64 x.num) ∧ w'.cell? ⟨b, off + k * 4 + 2, none⟩ = some (.string x.text) ∧ w'.cell? ⟨b, off + k * 4 + 3, none⟩ = some (.slice an nn cn) ∧ w'.cell? ⟨b', off' + k * 4, none⟩ = some (.int .i64 x.kind) ∧ w'.cell? ⟨b', off' + k * 4 + 1, none⟩ = some (.int .i64 x.num) ∧ w'.cell? ⟨b', off' + k * 4 + 2, none⟩ = some (.string x.text) ∧ w'.cell? ⟨b', off' + k * 4 + 3, none⟩ = some (.slice an' nn cn')) (first | assumption | go_keep)
        (first
          | (go_at_call 61; refine (eqValue_same x _ _ _ _ _ _ (hN.below D1 (Nat.le_refl _)) (hN'.below D1 (Nat.le_refl _))).mono ?_; rintro e w2 ⟨rfl, hb2⟩; have E2 := D1.trans (hb2.mono D1.size); obtain ⟨ec, _⟩ := bcell E2; have q2 : w2.cell? ⟨b, off + k * 4, none⟩ = some (.int .i64 x.kind) ∧ w2.cell? ⟨b, off + k * 4 + 1, none⟩ = some (.int .i64 x.num) ∧ w2.cell? ⟨b, off + k * 4 + 2, none⟩ = some (.string x.text) ∧ w2.cell? ⟨b, off + k * 4 + 3, none⟩ = some (.slice an nn cn) ∧ w2.cell? ⟨b', off' + k * 4, none⟩ = some (.int .i64 x.kind) ∧ w2.cell? ⟨b', off' + k * 4 + 1, none⟩ = some (.int .i64 x.num) ∧ w2.cell? ⟨b', off' + k * 4 + 2, none⟩ = some (.string x.text) ∧ w2.cell? ⟨b', off' + k * 4 + 3, none⟩ = some (.slice an' nn cn') := ⟨(ec _ _ hbl).trans c0, (ec _ _ hbl).trans c1, (ec _ _ hbl).trans c2, (ec _ _ hbl).trans c3, (ec _ _ hbl').trans d0, (ec _ _ hbl').trans d1, (ec _ _ hbl').trans d2, (ec _ _ hbl').trans d3⟩))
      go_wp2_with fail
      go_roundw
      case rel => exact ⟨k + 1, unhide Hlt, by go_num, hb.trans (E2.mono hb.size)⟩
      case measure => have := unhide Hlt; simp [intOf]; omega
    · have i3 : ¬ ((k : Int) < (n : Int)) := by omega
      go_wp2_with fail
      go_ret
      exact ⟨rfl, hb⟩

set_option maxHeartbeats 800000 in
theorem eqIns_same (s : Is1) (w : World) :
    Calls Tryz.prog 62 #[.agg #[.int .i64 s.op, .int .i64 s.arg], .agg #[.int .i64 s.op, .int .i64 s.arg]] w fun e w' => e = .returned (.bool true) ∧ Below w.heap.size w w' := by
  go_enter Tryz.func62, Tryz.ntmps62
  go_wp2
  go_ret
  exact ⟨rfl, ((Below.refl w.heap.size w).alloc (Nat.le_refl _) _).alloc (by simp) _⟩

set_option maxRecDepth 100000 in
set_option maxHeartbeats 1600000 in
theorem eqInsS_same (a a' : Option Addr) (n c c' : Nat) (N : List Is1) (w : World) (h : Iss w a n c N) (h' : Iss w a' n c' N) :
    Calls Tryz.prog 28 #[.slice a n c, .slice a' n c'] w fun e w' => e = .returned (.bool true) ∧ Below w.heap.size w w' := by
  have hn := h.small
  have Hl := hide h.len
  go_enter Tryz.func28, Tryz.ntmps28
  go_wp2_with fail
  go_loopw [5] (fun i wr => ∃ k : Nat, k ≤ n ∧ i = .int .i64 k ∧ Below w.heap.size w wr) (fun i _ => n - (intOf i).toNat)
  case atStart => exact ⟨0, Nat.zero_le _, rfl, Below.refl _ _⟩
  case round =>
    obtain ⟨k, hk, rfl, hb⟩ := hrel
    by_cases hlt : k < n
    · have hkl : k < N.length := by rw [unhide Hl]; exact hlt
      obtain ⟨b, off, rfl, hbl, c0, c1⟩ := (h.below hb (Nat.le_refl _)).cells k hkl
      obtain ⟨b', off', rfl, hbl', d0, d1⟩ := (h'.below hb (Nat.le_refl _)).cells k hkl
      have i3 : (k : Int) < (n : Int) := by omega
      generalize N[k] = x at c0 c1 d0 d1
      have Hlt := hide hlt
      clear hlt h h'
      go_wp2_with fail
      have D1 : Below wr.heap.size wr wr.drew := (Below.refl _ _).drew
      have q1 : wr.drew.cell? ⟨b, off + k * 2, none⟩ = some (.int .i64 x.op) ∧ wr.drew.cell? ⟨b, off + k * 2 + 1, none⟩ = some (.int .i64 x.arg) ∧ wr.drew.cell? ⟨b', off' + k * 2, none⟩ = some (.int .i64 x.op) ∧ wr.drew.cell? ⟨b', off' + k * 2 + 1, none⟩ = some (.int .i64 x.arg) := ⟨c0, c1, d0, d1⟩
      go_region_held3 (fun w' => w'.cell? ⟨b, off + k * 2, none⟩ = some (.int .i64 x.op) ∧ w'.cell? ⟨b, off + k * 2 + 1, none⟩ = some (.int .i64 x.arg) ∧ w'.cell? ⟨b', off' + k * 2, none⟩ = some (.int .i64 x.op) ∧ w'.cell? ⟨b', off' + k * 2 + 1, none⟩ = some (.int .i64 x.arg)) (first | assumption | go_keep)
        (first
          | (go_at_call 62; refine (eqIns_same x _).mono ?_; rintro e w2 ⟨rfl, hb2⟩; have E2 := D1.trans (hb2.mono D1.size); obtain ⟨ec, _⟩ := bcell E2; have q2 : w2.cell? ⟨b, off + k * 2, none⟩ = some (.int .i64 x.op) ∧ w2.cell? ⟨b, off + k * 2 + 1, none⟩ = some (.int .i64 x.arg) ∧ w2.cell? ⟨b', off' + k * 2, none⟩ = some (.int .i64 x.op) ∧ w2.cell? ⟨b', off' + k * 2 + 1, none⟩ = some (.int .i64 x.arg) := ⟨(ec _ _ hbl).trans c0, (ec _ _ hbl).trans c1, (ec _ _ hbl').trans d0, (ec _ _ hbl').trans d1⟩))
      go_wp2_with fail
      go_roundw
      case rel => exact ⟨k + 1, unhide Hlt, by go_num, hb.trans (E2.mono hb.size)⟩
      case measure => have := unhide Hlt; simp [intOf]; omega
    · have i3 : ¬ ((k : Int) < (n : Int)) := by omega
      go_wp2_with fail
      go_ret
      exact ⟨rfl, hb⟩

set_option maxHeartbeats 1600000 in
theorem eqCode_same (a a' b b' : Option Addr) (n c c' m d d' : Nat) (s : Int) (N : List Vl) (L : List Is1) (w : World) (h1 : Vls w a n c N) (h1' : Vls w a' n c' N) (h2 : Iss w b m d L) (h2' : Iss w b' m d' L) :
    Calls Tryz.prog 8 #[.agg #[.slice a n c, .int .i64 s, .slice b m d], .agg #[.slice a' n c', .int .i64 s, .slice b' m d']] w fun e w' => e = .returned (.bool true) ∧ Below w.heap.size w w' := by
  have B0 := ((Below.refl w.heap.size w).alloc (Nat.le_refl _) (.cells #[.slice a n c, .int .i64 s, .slice b m d] 31)).alloc (by simp) (.cells #[.slice a' n c', .int .i64 s, .slice b' m d'] 31)
  have R0 := (Row.new w #[.slice a n c, .int .i64 s, .slice b m d] 31).alloc (.cells #[.slice a' n c', .int .i64 s, .slice b' m d'] 31)
  have R1 := Row.new (w.alloc (.cells #[.slice a n c, .int .i64 s, .slice b m d] 31)) #[.slice a' n c', .int .i64 s, .slice b' m d'] 31
  simp only [World.size_alloc] at R1
  go_enter Tryz.func8, Tryz.ntmps8
  go_wp2_with fail
  refine (eqValueS_same _ _ _ _ _ _ _ (h1.below B0 (Nat.le_refl _)) (h1'.below B0 (Nat.le_refl _))).mono ?_
  rintro e w1 ⟨rfl, hb1⟩
  have B1 := B0.trans (hb1.mono (by simp; omega))
  have q0 := (R0.after hb1 (Nat.le_refl _)).cell 1
  have q1 := (R1.after hb1 (Nat.le_refl _)).cell 1
  have q2 := (R0.after hb1 (Nat.le_refl _)).cell 2
  have q3 := (R1.after hb1 (Nat.le_refl _)).cell 2
  have z1 := hb1.size
  simp at q0 q1 q2 q3 z1
  clear R0 R1 B0 hb1
  go_wp2_with fail
  refine (eqInsS_same _ _ _ _ _ _ _ (h2.below B1 (Nat.le_refl _)) (h2'.below B1 (Nat.le_refl _))).mono ?_
  rintro e w2 ⟨rfl, hb2⟩
  go_wp2_with fail
  go_ret
  exact ⟨rfl, B1.trans (hb2.mono (by omega))⟩

end Go.Proofs.YtpbopjgmiaoomaaGreatDoor

namespace Go.Proofs.YtpbopjgmiaoomaaGreatDoor
open Go.ChangeShapes Go.WideShapes Go.RowKit

theorem lt_of_cell {w : World} {p : Addr} {v : Value} (h : w.cell? p = some v) : p.block < w.heap.size := by
  by_cases hb : p.block < w.heap.size
  · exact hb
  · have : w.heap[p.block]? = none := Array.getElem?_eq_none (by omega)
    simp [World.cell?, this] at h

theorem Strs.of_trod {H : Type} {enc : TypeId × Value → H} {P : Program} {w : World} {held : Bool} {t e : TypeId} {fuel : Nat} {x : DataW H × List MemPlace} {a : Option Addr} {n c : Nat}
    (ht : P.underlying t = some (.slice e)) (he : P.underlying e = some .string) (hc : P.cellsOf e = 1)
    (h : DataW.trod enc P w 0 (fun _ => true) held fuel t [.slice a n c] = some x) : ∃ ss, Strs w a n c ss := by
  rcases open_strings ht he hc h with ⟨hcs, _⟩ | ⟨ad, len, cap, ss, hcs, _, hl, hm, hz, _, hcell, hws⟩
  · simp only [List.cons.injEq, Value.slice.injEq, and_true] at hcs
    obtain ⟨rfl, rfl, rfl⟩ := hcs
    exact ⟨[], rfl, Nat.le_refl _, Nat.zero_le _, fun j hj => by omega, fun j hj => by omega⟩
  · simp only [List.cons.injEq, Value.slice.injEq, and_true] at hcs
    obtain ⟨rfl, rfl, rfl⟩ := hcs
    simp only [if_true] at hz
    have hlen : (ss.take n).length = n := by simp; omega
    have hnth : ∀ j, j < n → nth (ss.take n) j = ss.getD j ByteArray.empty := fun j hj => by
      rw [nth_eq _ j (by omega), List.getElem_take]
      simp [List.getD, show j < ss.length from by omega]
    refine ⟨ss.take n, hlen.symm, hl, hm, fun j hj => ?_, fun j hj => ?_⟩
    · rw [hnth j hj]
      apply hws
      simp [List.getD, show j < ss.length from by omega]
    · have hcj := hcell j (by omega)
      have hs := World.cell?_spot (hcell 0 (by omega))
      obtain ⟨b, off, spot⟩ := ad
      simp only [Addr.add, if_true] at hs
      subst hs
      have hadd : (⟨b, off, none⟩ : Addr).add j = ⟨b, off + j, none⟩ := by
        by_cases e : j = 0 <;> simp [Addr.add, e]
      rw [hadd] at hcj
      refine ⟨b, off, rfl, ?_, ?_⟩
      · exact lt_of_cell hcj
      · rw [hnth j hj, ← hcj]

end Go.Proofs.YtpbopjgmiaoomaaGreatDoor

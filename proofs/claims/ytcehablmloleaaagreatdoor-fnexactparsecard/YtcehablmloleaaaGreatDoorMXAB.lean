/-
  Sets, Laws0, CMem, VPP, VPQ, TK, TN, OWX, JT0. Own work.
-/
import Derived.Test.YtcehablmloleaaaGreatDoorMXAA
import Derived.WalkKit
import Derived.RegionTactic
import Derived.ChangeAlike
import Derived.Deep.QuietTactic
import Derived.BigQuiet
import Derived.WalkSpells
import Derived.WalkLawsBesides
import Derived.Test.YtcehablmloleaaaGreatDoorRows
import Derived.Laws.AppendOwn
namespace Go.Proofs.YtcehablmloleaaaGreatDoor
open Go.RowKit

/-- The name at a place. -/
def nth (ss : List ByteArray) (k : Nat) : ByteArray := ss.getD k ByteArray.empty

theorem nth_eq (ss : List ByteArray) (k : Nat) (h : k < ss.length) : nth ss k = ss[k] := by
  simp [nth, List.getD, h]

/-- A slice of strings in memory: its elements. -/
structure Strs (w : World) (a : Option Addr) (n c : Nat) (ss : List ByteArray) : Prop where
  len : n = ss.length
  cap : n ≤ c
  small : c ≤ maxLen
  sizes : ∀ j, j < n → (nth ss j).size ≤ maxLen
  cells : ∀ j, j < n → ∃ b off, a = some ⟨b, off, none⟩ ∧ b < w.heap.size ∧ w.cell? ⟨b, off + j, none⟩ = some (.string (nth ss j))

theorem Strs.below {w w' : World} {B : Nat} {a : Option Addr} {n c : Nat} {ss : List ByteArray} (h : Strs w a n c ss) (hb : Below B w w') (hB : w.heap.size ≤ B) : Strs w' a n c ss :=
  ⟨h.len, h.cap, h.small, h.sizes, fun j hj => by
    obtain ⟨b, off, ha, hlt, hc⟩ := h.cells j hj
    exact ⟨b, off, ha, Nat.lt_of_lt_of_le hlt hb.size, by rw [← hc]; exact hb.cell (p := ⟨b, off + j, none⟩) (Nat.lt_of_lt_of_le hlt hB)⟩⟩

/-- The order of texts. -/
def sl (a b : ByteArray) : Bool := Op.bytesLess a.toList b.toList

theorem bytesLess_lt : ∀ (x y : List UInt8), Op.bytesLess x y = decide (x < y)
  | [], [] => by simp [Op.bytesLess]
  | _ :: _, [] => by simp [Op.bytesLess]
  | [], _ :: _ => by simp [Op.bytesLess]
  | a :: x, b :: y => by
    rw [Op.bytesLess, bytesLess_lt x y]
    simp only [List.cons_lt_cons_iff]
    by_cases h1 : a < b <;> by_cases h2 : a = b <;> by_cases h3 : x < y <;> simp [h1, h2, h3]

theorem sl_iff (a b : ByteArray) : sl a b = true ↔ a.data.toList < b.data.toList := by
  rw [sl, bytesLess_lt, ByteArray.toList_eq, ByteArray.toList_eq]; simp

theorem sl_trans {a b c : ByteArray} (h : sl a b = true) (k : sl b c = true) : sl a c = true := by
  rw [sl_iff] at *; exact List.lt_trans h k

theorem sl_irrefl (a : ByteArray) : sl a a = false := by
  rw [Bool.eq_false_iff]; intro h; rw [sl_iff] at h; exact List.lt_irrefl _ h

theorem bytes_ext {a b : ByteArray} (h : a.data.toList = b.data.toList) : a = b := by
  cases a with | mk x => cases b with | mk y => cases x; cases y; simp at h; subst h; rfl

theorem sl_tri (a b : ByteArray) (h1 : sl a b = false) (h2 : sl b a = false) : a = b := by
  apply bytes_ext
  rw [Bool.eq_false_iff] at h1 h2
  rw [Ne, sl_iff] at h1 h2
  exact List.le_antisymm (List.not_lt.1 h2) (List.not_lt.1 h1)

theorem sl_asymm {a b : ByteArray} (h : sl a b = true) : sl b a = false := by
  rw [Bool.eq_false_iff]; intro k; have := sl_trans h k; rw [sl_irrefl] at this; cases this

/-- each name behind it is greater -/
def risB (ss : List ByteArray) : Bool := decide (ss.Pairwise fun a b => sl a b = true)

end Go.Proofs.YtcehablmloleaaaGreatDoor

namespace Go.Proofs.YtcehablmloleaaaGreatDoor
open Go.RowKit

theorem ret_int {k : IntKind} {a b : Int} (h : a = b) : Ending.returned (.int k a) = .returned (.int k b) := by rw [h]

theorem Strs.of_owns {w : World} {base e : Nat} {a : Option Addr} {n c : Nat} {ss : List ByteArray} (h : w.ownsRow base e 1 (.slice a n c) n (ss.map Value.string)) (hs : ∀ j, j < n → (nth ss j).size ≤ maxLen) :
    Strs w a n c ss := by
  have hlen : ss.length = n := by simpa using h.1
  have h' := h
  rcases h.2 with ⟨hv, h0⟩ | ⟨g, cap, cur, hv, hb, hg, hnc, hcm, hcs, htake⟩
  · simp only [Value.slice.injEq] at hv
    obtain ⟨rfl, rfl, rfl⟩ := hv
    exact ⟨hlen.symm, Nat.le_refl _, Nat.zero_le _, hs, fun j hj => by omega⟩
  · simp only [Value.slice.injEq, true_and] at hv
    obtain ⟨rfl, rfl⟩ := hv
    refine ⟨hlen.symm, hnc, hcm, hs, fun j hj => ⟨g, 0, rfl, ?_, ?_⟩⟩
    · exact (Array.getElem?_eq_some_iff.1 hg).1
    · have := h'.cellAt j (by omega)
      rw [Nat.zero_add, this, nth_eq ss j (by omega)]
      simp [hlen, hj]

theorem infoS : (Tryz.prog.info? 9).map (fun i => (i.zero, i.size, i.bytes)) = some (some (.string ByteArray.empty), 1, 16) := by kernel_rfl

end Go.Proofs.YtcehablmloleaaaGreatDoor

namespace Go.Proofs.YtcehablmloleaaaGreatDoor
open Go.RowKit

theorem bcell {W w1 : World} (hb : Below W.heap.size W w1) : (∀ b o, b < W.heap.size → w1.cell? ⟨b, o, none⟩ = W.cell? ⟨b, o, none⟩) ∧ (∀ b o, b < W.heap.size → w1.frozen? ⟨b, o, none⟩ = W.frozen? ⟨b, o, none⟩) :=
  ⟨fun b o h => hb.cell (p := ⟨b, o, none⟩) h, fun b o h => hb.frozen (p := ⟨b, o, none⟩) h⟩

/-- Block b holds the cells cs. -/
structure Row (w : World) (b : Nat) (cs : Array Value) (t : TypeId) : Prop where
  out : w.heap[b]? = some (.cells cs t (0, 0))

theorem Row.lt {w : World} {b : Nat} {cs : Array Value} {t : TypeId} (h : Row w b cs t) : b < w.heap.size := (Array.getElem?_eq_some_iff.1 h.out).1

theorem Row.below {w w' : World} {B b : Nat} {cs : Array Value} {t : TypeId} (h : Row w b cs t) (hb : Below B w w') (hB : b < B) : Row w' b cs t := ⟨(hb.block b hB).trans h.out⟩

theorem Row.after {w w' : World} {B b : Nat} {cs : Array Value} {t : TypeId} (h : Row w b cs t) (hb : Below B w w') (hB : w.heap.size ≤ B) : Row w' b cs t := h.below hb (Nat.lt_of_lt_of_le h.lt hB)

theorem Row.alloc {w : World} {b : Nat} {cs : Array Value} {t : TypeId} (h : Row w b cs t) (o : Obj) : Row (w.alloc o) b cs t := ⟨(Below.heap_alloc w o b h.lt).trans h.out⟩

theorem Row.new (w : World) (cs : Array Value) (t : TypeId) : Row (w.alloc (.cells cs t)) w.heap.size cs t := ⟨heap_alloc_new w _⟩

theorem Row.set {w : World} {b : Nat} {cs : Array Value} {t : TypeId} (h : Row w b cs t) (j : Nat) (u : Value) : Row (w.setCell ⟨b, j, none⟩ u) b (cs.setIfInBounds j u) t := ⟨heap_setCell_same w b j cs t u h.out⟩

theorem Row.setFar {w : World} {b : Nat} {cs : Array Value} {t : TypeId} (h : Row w b cs t) {p : Addr} (hp : b ≠ p.block) (u : Value) : Row (w.setCell p u) b cs t := ⟨(heap_setCell_other w p b u hp).trans h.out⟩

theorem Row.cell {w : World} {b : Nat} {cs : Array Value} {t : TypeId} (h : Row w b cs t) (j : Nat) : w.cell? ⟨b, j, none⟩ = cs[j]? := by
  have := cell_of_row w b j cs t (0, 0) h.out
  simpa using this

theorem Row.frozen {w : World} {b : Nat} {cs : Array Value} {t : TypeId} (h : Row w b cs t) (j : Nat) : w.frozen? ⟨b, j, none⟩ = false := frozen_of_row w b j cs t h.out

/-- four cells of a block, written over -/
def put4 (W : World) (b : Nat) (v0 v1 v2 v3 : Value) : World := (((W.setCell ⟨b, 0, none⟩ v0).setCell ⟨b, 1, none⟩ v1).setCell ⟨b, 2, none⟩ v2).setCell ⟨b, 3, none⟩ v3

theorem put4_block (W : World) (b k : Nat) (v0 v1 v2 v3 : Value) (h : k ≠ b) : (put4 W b v0 v1 v2 v3).heap[k]? = W.heap[k]? := by
  unfold put4
  rw [heap_setCell_other _ _ _ _ h, heap_setCell_other _ _ _ _ h, heap_setCell_other _ _ _ _ h, heap_setCell_other _ _ _ _ h]

theorem put4_row {W : World} {b : Nat} {u0 u1 u2 u3 : Value} {t : TypeId} (h : Row W b #[u0, u1, u2, u3] t) (v0 v1 v2 v3 : Value) : Row (put4 W b v0 v1 v2 v3) b #[v0, v1, v2, v3] t := by
  have e : ((((#[u0, u1, u2, u3].setIfInBounds 0 v0).setIfInBounds 1 v1).setIfInBounds 2 v2).setIfInBounds 3 v3) = #[v0, v1, v2, v3] := rfl
  have := (((h.set 0 v0).set 1 v1).set 2 v2).set 3 v3
  rw [e] at this
  exact this

theorem put4_below {B : Nat} {w W : World} {b : Nat} (h : Below B w W) (hb : B ≤ b) (v0 v1 v2 v3 : Value) : Below B w (put4 W b v0 v1 v2 v3) :=
  (((h.setCell (p := ⟨b, 0, none⟩) hb v0).setCell (p := ⟨b, 1, none⟩) hb v1).setCell (p := ⟨b, 2, none⟩) hb v2).setCell (p := ⟨b, 3, none⟩) hb v3

end Go.Proofs.YtcehablmloleaaaGreatDoor

namespace Go.Proofs.YtcehablmloleaaaGreatDoor
open Go.RowKit
set_option linter.unusedVariables false

/-- the greatest depth -/
def dep : List (Nat × Nat) → Nat
  | [] => 0
  | p :: ps => max p.2 (dep ps)

def topsI (ks : List (Nat × Nat)) : List Int := ks.map fun p => (p.1 : Int)

/-- Trees side by side, in post-order: from a place on, each with its top and depth, up to a place (K: the kids of each node). -/
inductive Forest (K : List (List Int)) : Nat → List (Nat × Nat) → Nat → Prop
  | nil (a : Nat) : Forest K a [] a
  | cons {a t b : Nat} {ks fs : List (Nat × Nat)} (hk : Forest K a ks t) (ht : K[t]? = some (topsI ks)) (hf : Forest K (t + 1) fs b) : Forest K a ((t, dep ks + 1) :: fs) b

theorem Forest.le {K : List (List Int)} {a b : Nat} {fs : List (Nat × Nat)} (h : Forest K a fs b) : a ≤ b := by
  induction h with
  | nil a => exact Nat.le_refl _
  | cons hk ht hf i1 i2 => omega

theorem Forest.lt {K : List (List Int)} {a b : Nat} {fs : List (Nat × Nat)} (h : Forest K a fs b) : ∀ p ∈ fs, a ≤ p.1 ∧ p.1 < b := by
  induction h with
  | nil a => intro p hp; cases hp
  | cons hk ht hf i1 i2 =>
    intro p hp
    have h1 := hk.le
    have h2 := hf.le
    rcases List.mem_cons.1 hp with e | e
    · subst e; exact ⟨h1, by show _ < _; omega⟩
    · have := i2 p e; omega

end Go.Proofs.YtcehablmloleaaaGreatDoor

namespace Go.Proofs.YtcehablmloleaaaGreatDoor
open Go.RowKit
set_option linter.unusedVariables false

/-- 0, 1, 2 and so on -/
def good (l : List Int) : Prop := ∀ (i : Nat) (x : Int), l[i]? = some x → x = i

theorem good.pre {l m : List Int} (h : good (l ++ m)) : good l := fun i x hx => by
  have hi : i < l.length := (List.getElem?_eq_some_iff.1 hx).1
  exact h i x (by rw [List.getElem?_append_left hi]; exact hx)

theorem good.last {l : List Int} {x : Int} (h : good (l ++ [x])) : x = l.length := h l.length x (by simp)

theorem good.snoc {l : List Int} {x : Int} (h : good l) (e : x = l.length) : good (l ++ [x]) := fun i y hy => by
  rcases Nat.lt_trichotomy i l.length with k | k | k
  · rw [List.getElem?_append_left k] at hy; exact h i y hy
  · subst k; simp at hy; omega
  · rw [List.getElem?_append_right (by omega), List.getElem?_eq_none (by simp; omega)] at hy; cases hy

/-- numbers from one on -/
def upto (a b : Nat) : List Int := (List.range' a (b - a)).map fun (i : Nat) => (i : Int)

end Go.Proofs.YtcehablmloleaaaGreatDoor

namespace Go.Proofs.YtcehablmloleaaaGreatDoor
open Go.RowKit

def ltI (c : Int) : Bool := decide (97 ≤ c ∧ c ≤ 122)
def ltB (c : UInt8) : Bool := ltI (c.toNat : Int)
def wdI (c : Int) : Bool := ltI c || dgI c || decide (c = 95)
def wdB (c : UInt8) : Bool := wdI (c.toNat : Int)
def nmB (c : UInt8) : Bool := nmI (c.toNat : Int)

/-- where a run of bytes ends that begins at a place -/
def endS (p : UInt8 → Bool) (s : ByteArray) (j : Nat) : Nat := j + (((toL s).drop j).takeWhile p).length

theorem drop_cons (s : ByteArray) (j : Nat) (h : j < s.size) : (toL s).drop j = s[j] :: (toL s).drop (j + 1) := by
  have h' : j < (toL s).length := by rw [toL_size]; exact h
  rw [List.drop_eq_getElem_cons h']
  rfl

theorem endS_step {p : UInt8 → Bool} {s : ByteArray} {j : Nat} (h : j < s.size) (hp : p s[j] = true) : endS p s j = endS p s (j + 1) := by
  rw [endS, endS, drop_cons s j h, List.takeWhile_cons, if_pos hp]; simp; omega

theorem endS_stop {p : UInt8 → Bool} {s : ByteArray} {j : Nat} (h : j < s.size) (hp : p s[j] = false) : endS p s j = j := by
  rw [endS, drop_cons s j h, List.takeWhile_cons, if_neg (by simp [hp])]; rfl

theorem endS_end {p : UInt8 → Bool} {s : ByteArray} {j : Nat} (h : s.size ≤ j) : endS p s j = j := by
  rw [endS, List.drop_of_length_le (by rw [toL_size]; exact h)]; rfl

theorem endS_le {p : UInt8 → Bool} {s : ByteArray} {j : Nat} (h : j ≤ s.size) : j ≤ endS p s j ∧ endS p s j ≤ s.size := by
  rw [endS]
  have h1 := (List.takeWhile_prefix p (l := (toL s).drop j)).length_le
  have h2 : ((toL s).drop j).length = s.size - j := by rw [List.length_drop, toL_size]
  omega

/-- the bytes of a run -/
def runL (p : UInt8 → Bool) (r : List UInt8) : Nat := (r.takeWhile p).length

theorem runL_le (p : UInt8 → Bool) (r : List UInt8) : runL p r ≤ r.length := (List.takeWhile_prefix p).length_le

theorem endS_runL (p : UInt8 → Bool) (s : ByteArray) (j : Nat) : endS p s j = j + runL p ((toL s).drop j) := rfl

theorem toL_extract (s : ByteArray) (i j : Nat) : toL (s.extract i j) = ((toL s).drop i).take (j - i) := by
  simp [toL, ByteArray.data_extract]

theorem toL_rest (s : ByteArray) (i : Nat) : toL (s.extract i s.size) = (toL s).drop i := by
  rw [toL_extract, List.take_of_length_le (by rw [List.length_drop, toL_size]; exact Nat.le_refl _)]

theorem endS_zero (p : UInt8 → Bool) (s : ByteArray) : endS p s 0 = runL p (toL s) := by simp [endS_runL]

def wordsL : List (List UInt8) := [[108, 101, 116], [119, 104, 101, 110], [101, 108, 115, 101], [100, 101, 110, 121], [103, 114, 97, 110, 116], [105, 102], [116, 104, 101, 110], [110, 111, 116], [97, 110, 100], [111, 114], [105, 110], [119, 105, 116, 104, 105, 110], [115, 105, 122, 101], [116, 114, 117, 101], [102, 97, 108, 115, 101]]

def isWd (l : List UInt8) : Bool := wordsL.contains l

def signs2 : List (List UInt8) := [[61, 62], [61, 61], [33, 61], [60, 61]]
def signs1 : List UInt8 := [60, 43, 45, 42, 47, 37, 124, 38, 92, 40, 41, 123, 125, 44, 59, 61]

/-- a token, or what is wrong -/
inductive One where
  | bad (code : Int)
  | tok (kind num : Int) (text : List UInt8) (w : Nat)

/-- a number goes on as a word would -/
def follows (r : List UInt8) (w : Nat) : Bool := match r[w]? with
  | some x => ltB x || decide (x = 95)
  | none => false

def oneWord (r : List UInt8) : One :=
  if 32 < runL wdB r then .bad 3 else .tok (if isWd (r.take (runL wdB r)) then 4 else 3) 0 (r.take (runL wdB r)) (runL wdB r)

def oneNum (r : List UInt8) : One :=
  if 19 < runL dgB r ∨ follows r (runL dgB r) = true ∨ 9223372036854775807 < lvV (r.take (runL dgB r)) then .bad 3 else .tok 1 (lvV (r.take (runL dgB r))) [] (runL dgB r)

def oneText (r : List UInt8) : One :=
  if 32 < runL nmB r ∨ r[runL nmB r]? ≠ some 34 then .bad 3 else .tok 2 0 (r.take (runL nmB r)) (runL nmB r + 2)

def oneSign (c : UInt8) (r : List UInt8) : One :=
  if signs2.contains (r.take 2) then .tok 5 0 (r.take 2) 2 else if signs1.contains c then .tok 5 0 [c] 1 else .bad 2

def oneF : List UInt8 → One
  | [] => .bad 0
  | c :: r => if ltB c then oneWord (c :: r) else if dgB c then oneNum (c :: r) else if c = 34 then oneText r else oneSign c (c :: r)

structure Tok where
  kind : Int
  num : Int
  text : ByteArray
  at_ : Nat

/-- what is left behind blanks and comments (on: within one) -/
def blk : Bool → List UInt8 → List UInt8
  | _, [] => []
  | false, c :: r => if c = 32 ∨ c = 10 ∨ c = 9 then blk false r else if c = 35 then blk true r else c :: r
  | true, c :: r => if c = 10 then blk false r else blk true r

theorem blk_le : ∀ (o : Bool) (l : List UInt8), (blk o l).length ≤ l.length
  | _, [] => by simp [blk]
  | false, c :: r => by
    rw [blk]
    split
    · have := blk_le false r; simp; omega
    · split
      · have := blk_le true r; simp; omega
      · exact Nat.le_refl _
  | true, c :: r => by
    rw [blk]
    split
    · have := blk_le false r; simp; omega
    · have := blk_le true r; simp; omega

theorem blk_idem : ∀ (o : Bool) (l : List UInt8), blk false (blk o l) = blk o l
  | _, [] => by simp [blk]
  | false, c :: r => by
    rw [blk]
    split
    · exact blk_idem false r
    · split
      · exact blk_idem true r
      · rw [blk, if_neg (by assumption), if_neg (by assumption)]
  | true, c :: r => by
    rw [blk]
    split
    · exact blk_idem false r
    · exact blk_idem true r

/-- the tokens, what is wrong, and where -/
structure Res where
  toks : List Tok
  code : Int
  at_ : Nat

/-- tokens of a rest of a text of n bytes -/
def scanF (n : Nat) : Nat → List UInt8 → List Tok → Res
  | 0, _, out => ⟨out, 0, 0⟩
  | f + 1, l, out => match blk false l with
    | [] => ⟨out, 0, 0⟩
    | c :: r => match oneF (c :: r) with
      | .bad code => ⟨[], code, n - (r.length + 1)⟩
      | .tok k m s w => scanF n f ((c :: r).drop w) (out ++ [⟨k, m, ofL s, n - (r.length + 1)⟩])

theorem scanF_blk (n f : Nat) (l : List UInt8) (out : List Tok) : scanF n f (blk false l) out = scanF n f l out := by
  cases f with
  | zero => rfl
  | succ f => rw [scanF, scanF, blk_idem]

theorem scanF_blk' (n f : Nat) {l l' : List UInt8} (h : blk false l = blk false l') (out : List Tok) : scanF n f l out = scanF n f l' out := by
  rw [← scanF_blk, h, scanF_blk]

/-- the whole of Scan -/
def scanR (t : ByteArray) : Res := if 4000 < t.size then ⟨[], 1, 0⟩ else scanF t.size (t.size + 1) (toL t) []

/-- a token's bounds -/
def One.okW : One → List UInt8 → Prop
  | .bad _, _ => True
  | .tok _ _ s w, r => 1 ≤ w ∧ w ≤ r.length ∧ s.length ≤ w

theorem runL_pos {p : UInt8 → Bool} {c : UInt8} {r : List UInt8} (h : p c = true) : 1 ≤ runL p (c :: r) := by
  rw [runL, List.takeWhile_cons, if_pos h]; simp

theorem oneF_ok (r : List UInt8) : (oneF r).okW r := by
  cases r with
  | nil => simp [oneF, One.okW]
  | cons c r =>
    rw [oneF]
    split
    case isTrue h =>
      rw [oneWord]
      split
      · exact trivial
      · have h1 := runL_pos (p := wdB) (c := c) (r := r) (by rw [wdB, wdI]; rw [ltB] at h; simp [h])
        have h2 := runL_le wdB (c :: r)
        exact ⟨h1, h2, by rw [List.length_take]; omega⟩
    case isFalse h =>
      split
      case isTrue h =>
        rw [oneNum]
        split
        · exact trivial
        · exact ⟨runL_pos h, runL_le _ _, Nat.zero_le _⟩
      case isFalse h =>
        split
        case isTrue h =>
          rw [oneText]
          split
          · exact trivial
          · rename_i h1
            rw [not_or, Decidable.not_not] at h1
            have h2 := (List.getElem?_eq_some_iff.1 h1.2).1
            exact ⟨by omega, by simp; omega, by rw [List.length_take]; omega⟩
        case isFalse h =>
          rw [oneSign]
          split
          case isTrue h =>
            have h2 : 2 ≤ (c :: r).length := by
              cases r with
              | nil => exfalso; revert h; simp [signs2]
              | cons d r => simp
            exact ⟨by omega, h2, by rw [List.length_take]; omega⟩
          case isFalse h =>
            split
            · exact ⟨by omega, by simp, by simp⟩
            · exact trivial

/-- one token taken -/
theorem scanF_tok {n f : Nat} {c : UInt8} {r : List UInt8} {out : List Tok} {k m : Int} {s : List UInt8} {w : Nat} (hb : blk false (c :: r) = c :: r) (h : oneF (c :: r) = .tok k m s w) :
    scanF n (f + 1) (c :: r) out = scanF n f ((c :: r).drop w) (out ++ [⟨k, m, ofL s, n - (r.length + 1)⟩]) := by
  rw [scanF, hb]; simp only [h]

theorem scanF_bad {n f : Nat} {c : UInt8} {r : List UInt8} {out : List Tok} {code : Int} (hb : blk false (c :: r) = c :: r) (h : oneF (c :: r) = .bad code) :
    scanF n (f + 1) (c :: r) out = ⟨[], code, n - (r.length + 1)⟩ := by
  rw [scanF, hb]; simp only [h]

theorem scanF_nil {n f : Nat} {out : List Tok} : scanF n f [] out = ⟨out, 0, 0⟩ := by
  cases f <;> simp [scanF, blk]

end Go.Proofs.YtcehablmloleaaaGreatDoor

namespace Go.Proofs.YtcehablmloleaaaGreatDoor
open Go.RowKit

theorem lvV_from : ∀ (l : List UInt8) (n : Int), l.foldl (fun n x => n * 10 + ((x.toNat : Int) - 48)) n = n * 10 ^ l.length + lvV l
  | [], n => by simp [lvV]
  | x :: xs, n => by
    have e : lvV (x :: xs) = (0 * 10 + ((x.toNat : Int) - 48)) * 10 ^ xs.length + lvV xs := lvV_from xs _
    rw [List.foldl_cons, lvV_from xs, e, List.length_cons, Int.pow_succ]
    rw [Int.add_mul, Int.add_mul]
    have : n * 10 * 10 ^ xs.length = n * (10 ^ xs.length * 10) := by rw [Int.mul_assoc, Int.mul_comm 10]
    omega

theorem lvV_cons (x : UInt8) (l : List UInt8) : lvV (x :: l) = ((x.toNat : Int) - 48) * 10 ^ l.length + lvV l := by
  rw [lvV, List.foldl_cons, lvV_from]
  simp

theorem lvV_lt : ∀ (a b : List UInt8), a.length = b.length → a.all dgB = true → b.all dgB = true → (a < b ↔ lvV a < lvV b)
  | [], [], _, _, _ => by simp
  | [], _ :: _, h, _, _ => by simp at h
  | _ :: _, [], h, _, _ => by simp at h
  | x :: xs, y :: ys, h, ha, hb => by
    have h' : xs.length = ys.length := by simpa using h
    rw [List.all_cons, Bool.and_eq_true] at ha hb
    have ih := lvV_lt xs ys h' ha.2 hb.2
    obtain ⟨a1, a2⟩ := lvV_bound _ xs rfl ha.2
    obtain ⟨b1, b2⟩ := lvV_bound _ ys rfl hb.2
    rw [lvV_cons, lvV_cons, List.cons_lt_cons_iff, ih, h']
    rw [h'] at a2
    have hp : (0 : Int) < 10 ^ ys.length := by omega
    generalize (10 : Int) ^ ys.length = p at *
    rcases Nat.lt_trichotomy x.toNat y.toNat with e | e | e
    · have h1 : x < y := UInt8.lt_iff_toNat_lt.2 e
      have : ((x.toNat : Int) - 48 + 1) * p ≤ ((y.toNat : Int) - 48) * p := Int.mul_le_mul_of_nonneg_right (by omega) (by omega)
      rw [Int.add_mul] at this
      constructor
      · intro _; omega
      · intro _; exact .inl h1
    · have h1 : x = y := UInt8.toNat_inj.1 e
      subst h1
      constructor
      · rintro (h | ⟨_, h⟩)
        · exact absurd h (by simp [UInt8.lt_irrefl])
        · omega
      · intro h; exact .inr ⟨rfl, by omega⟩
    · have h1 : y < x := UInt8.lt_iff_toNat_lt.2 e
      have : ((y.toNat : Int) - 48 + 1) * p ≤ ((x.toNat : Int) - 48) * p := Int.mul_le_mul_of_nonneg_right (by omega) (by omega)
      rw [Int.add_mul] at this
      constructor
      · rintro (h | ⟨h, _⟩)
        · exfalso; have h2 := UInt8.lt_iff_toNat_lt.1 h; omega
        · subst h; omega
      · intro h; omega

def maxT : List UInt8 := [57, 50, 50, 51, 51, 55, 50, 48, 51, 54, 56, 53, 52, 55, 55, 53, 56, 48, 55]

theorem maxT_v : lvV maxT = 9223372036854775807 := by decide

theorem runL_all (p : UInt8 → Bool) (r : List UInt8) : (r.take (runL p r)).all p = true := by
  have : r.take (runL p r) = r.takeWhile p := by
    obtain ⟨t, ht⟩ := List.takeWhile_prefix p (l := r)
    rw [runL]
    have e : (r.takeWhile p ++ t).take (r.takeWhile p).length = r.takeWhile p := by simp
    rw [ht] at e
    exact e
  rw [this, List.all_takeWhile]

theorem lvV_take_le (k : Nat) (d : List UInt8) (h : d.all dgB = true) : 0 ≤ lvV (d.take k) ∧ lvV (d.take k) ≤ lvV d := by
  have h1 : (d.take k).all dgB = true := by rw [List.all_eq_true] at h ⊢; exact fun x hx => h x (List.mem_of_mem_take hx)
  have h2 : (d.drop k).all dgB = true := by rw [List.all_eq_true] at h ⊢; exact fun x hx => h x (List.mem_of_mem_drop hx)
  obtain ⟨a1, _⟩ := lvV_bound _ _ rfl h1
  obtain ⟨b1, b2⟩ := lvV_bound _ _ rfl h2
  refine ⟨a1, ?_⟩
  conv => rhs; rw [← List.take_append_drop k d, lvV, List.foldl_append, lvV_from]
  have hp : (1 : Int) ≤ 10 ^ (d.drop k).length := by omega
  have := Int.mul_le_mul_of_nonneg_left hp a1
  have e : lvV (d.take k) = List.foldl (fun n x => n * 10 + ((x.toNat : Int) - 48)) 0 (d.take k) := rfl
  rw [← e]
  omega

end Go.Proofs.YtcehablmloleaaaGreatDoor

namespace Go.Proofs.YtcehablmloleaaaGreatDoor
open Go.RowKit
set_option linter.unusedVariables false

theorem ownsRow_below {w w' : World} {base : Nat} {e : TypeId} {size : Nat} {v : Value} {n B : Nat} {xs : List Value} (h : w.ownsRow base e size v n xs) (hb : Below B w w') (hB : w.heap.size ≤ B) : w'.ownsRow base e size v n xs := by
  refine ⟨h.1, ?_⟩
  rcases h.2 with hn | ⟨g, cap, cur, hv, h1, h2, h3⟩
  · exact .inl hn
  · exact .inr ⟨g, cap, cur, hv, h1, (hb.block g (Nat.lt_of_lt_of_le (Array.getElem?_eq_some_iff.1 h2).1 hB)).trans h2, h3⟩

theorem owns_form2 {w : World} {base e size n : Nat} {v : Value} {xs : List Value} (h : w.ownsRow base e size v n xs) : ∃ x c, v = .slice x n c ∧ (0 < n → ∃ g, x = some ⟨g, 0, none⟩ ∧ base ≤ g ∧ ∀ j u, xs[j]? = some u → w.cell? ⟨g, j, none⟩ = some u) := by
  rcases h.2 with ⟨rfl, rfl⟩ | ⟨g, cap, cur, rfl, hb, _⟩
  · exact ⟨_, _, rfl, fun h => absurd h (by omega)⟩
  · refine ⟨_, _, rfl, fun _ => ⟨g, rfl, hb, fun j u hu => ?_⟩⟩
    have := h.cells (g := g) rfl j u hu
    have hadd : (⟨g, 0, none⟩ : Addr).add j = ⟨g, j, none⟩ := by unfold Addr.add; split <;> simp_all
    rwa [hadd] at this

theorem owns_blocks2 {w w' : World} {base : Nat} {e : TypeId} {size n : Nat} {v : Value} {xs : List Value} (h : w.ownsRow base e size v n xs) (hd : ∀ q, v.ownBlock = some q → w'.heap[q]? = w.heap[q]?) : w'.ownsRow base e size v n xs := by
  refine ⟨h.1, ?_⟩
  rcases h.2 with h2 | ⟨g, cap, cur, hv, h3, hg, h4⟩
  · exact .inl h2
  · exact .inr ⟨g, cap, cur, hv, h3, (hd g (by rw [hv]; rfl)).trans hg, h4⟩

theorem own_set3 {w : World} {base : Nat} {e : TypeId} {size n : Nat} {v : Value} {xs : List Value} (h : w.ownsRow base e size v n xs) (p : Addr) (u : Value) (hp : ∀ q, v.ownBlock = some q → q ≠ p.block) : (w.setCell p u).ownsRow base e size v n xs :=
  owns_blocks2 h (fun q hq => heap_setCell_other w p q u (hp q hq))

theorem own_ne_row {w : World} {B cb n size : Nat} {e T : TypeId} {v : Value} {xs : List Value} {cs : Array Value} (R : Row w cb cs T) (h : w.ownsRow B e size v n xs) (hT : T ≠ e) : v.ownBlock ≠ some cb := fun hq => by
  rcases h.2 with ⟨hv, _⟩ | ⟨g, cap, cur, hv, _, hg, _⟩
  · rw [hv] at hq; cases hq
  · rw [hv] at hq
    obtain rfl : g = cb := by simpa [Value.ownBlock] using hq
    have := R.out.symm.trans hg
    simp at this
    exact hT this.2

end Go.Proofs.YtcehablmloleaaaGreatDoor

namespace Go.Proofs.YtcehablmloleaaaGreatDoor
open Go.RowKit
set_option linter.unusedVariables false

/-- a type, or none -/
def nz (t : Int) : Option Int := if t = 0 then none else some t

end Go.Proofs.YtcehablmloleaaaGreatDoor

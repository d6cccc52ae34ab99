/-
  What a text's tokens are. Own work.
-/
import Derived.Test.YtiaijhkcnfpamaaDoorTL
namespace Go.Proofs.YtiaijhkcnfpamaaDoor
open Go.RowKit

def ltI (c : Int) : Bool := decide (97 ≤ c ∧ c ≤ 122)
def ltB (c : UInt8) : Bool := ltI (c.toNat : Int)
def wdI (c : Int) : Bool := ltI c || dgI c || decide (c = 95)
def wdB (c : UInt8) : Bool := wdI (c.toNat : Int)
def nmB (c : UInt8) : Bool := nmI (c.toNat : Int)

/-- where a run of bytes ends that begins at a place -/
def endS (p : UInt8 → Bool) (s : ByteArray) (j : Nat) : Nat := j + (((toL s).drop j).takeWhile p).length

theorem drop_cons (s : ByteArray) (j : Nat) (h : j < s.size) : (toL s).drop j = s[j] :: (toL s).drop (j + 1) := by
  have h' : j < (toL s).length := by rw [toL_size]; exact h
  rw [List.drop_eq_getElem_cons h']
  rfl

theorem endS_step {p : UInt8 → Bool} {s : ByteArray} {j : Nat} (h : j < s.size) (hp : p s[j] = true) : endS p s j = endS p s (j + 1) := by
  rw [endS, endS, drop_cons s j h, List.takeWhile_cons, if_pos hp]; simp; omega

theorem endS_stop {p : UInt8 → Bool} {s : ByteArray} {j : Nat} (h : j < s.size) (hp : p s[j] = false) : endS p s j = j := by
  rw [endS, drop_cons s j h, List.takeWhile_cons, if_neg (by simp [hp])]; rfl

theorem endS_end {p : UInt8 → Bool} {s : ByteArray} {j : Nat} (h : s.size ≤ j) : endS p s j = j := by
  rw [endS, List.drop_of_length_le (by rw [toL_size]; exact h)]; rfl

theorem endS_le {p : UInt8 → Bool} {s : ByteArray} {j : Nat} (h : j ≤ s.size) : j ≤ endS p s j ∧ endS p s j ≤ s.size := by
  rw [endS]
  have h1 := (List.takeWhile_prefix p (l := (toL s).drop j)).length_le
  have h2 : ((toL s).drop j).length = s.size - j := by rw [List.length_drop, toL_size]
  omega

/-- the bytes of a run -/
def runL (p : UInt8 → Bool) (r : List UInt8) : Nat := (r.takeWhile p).length

theorem runL_le (p : UInt8 → Bool) (r : List UInt8) : runL p r ≤ r.length := (List.takeWhile_prefix p).length_le

theorem endS_runL (p : UInt8 → Bool) (s : ByteArray) (j : Nat) : endS p s j = j + runL p ((toL s).drop j) := rfl

theorem toL_extract (s : ByteArray) (i j : Nat) : toL (s.extract i j) = ((toL s).drop i).take (j - i) := by
  simp [toL, ByteArray.data_extract]

theorem toL_rest (s : ByteArray) (i : Nat) : toL (s.extract i s.size) = (toL s).drop i := by
  rw [toL_extract, List.take_of_length_le (by rw [List.length_drop, toL_size]; exact Nat.le_refl _)]

theorem endS_zero (p : UInt8 → Bool) (s : ByteArray) : endS p s 0 = runL p (toL s) := by simp [endS_runL]

def wordsL : List (List UInt8) := [[108, 101, 116], [119, 104, 101, 110], [101, 108, 115, 101], [100, 101, 110, 121], [103, 114, 97, 110, 116], [105, 102], [116, 104, 101, 110], [110, 111, 116], [97, 110, 100], [111, 114], [105, 110], [119, 105, 116, 104, 105, 110], [115, 105, 122, 101], [116, 114, 117, 101], [102, 97, 108, 115, 101]]

def isWd (l : List UInt8) : Bool := wordsL.contains l

def signs2 : List (List UInt8) := [[61, 62], [61, 61], [33, 61], [60, 61]]
def signs1 : List UInt8 := [60, 43, 45, 42, 47, 37, 124, 38, 92, 40, 41, 123, 125, 44, 59, 61]

/-- a token, or what is wrong -/
inductive One where
  | bad (code : Int)
  | tok (kind num : Int) (text : List UInt8) (w : Nat)

/-- a number goes on as a word would -/
def follows (r : List UInt8) (w : Nat) : Bool := match r[w]? with
  | some x => ltB x || decide (x = 95)
  | none => false

def oneWord (r : List UInt8) : One :=
  if 32 < runL wdB r then .bad 3 else .tok (if isWd (r.take (runL wdB r)) then 4 else 3) 0 (r.take (runL wdB r)) (runL wdB r)

def oneNum (r : List UInt8) : One :=
  if 19 < runL dgB r ∨ follows r (runL dgB r) = true ∨ 9223372036854775807 < lvV (r.take (runL dgB r)) then .bad 3 else .tok 1 (lvV (r.take (runL dgB r))) [] (runL dgB r)

def oneText (r : List UInt8) : One :=
  if 32 < runL nmB r ∨ r[runL nmB r]? ≠ some 34 then .bad 3 else .tok 2 0 (r.take (runL nmB r)) (runL nmB r + 2)

def oneSign (c : UInt8) (r : List UInt8) : One :=
  if signs2.contains (r.take 2) then .tok 5 0 (r.take 2) 2 else if signs1.contains c then .tok 5 0 [c] 1 else .bad 2

def oneF : List UInt8 → One
  | [] => .bad 0
  | c :: r => if ltB c then oneWord (c :: r) else if dgB c then oneNum (c :: r) else if c = 34 then oneText r else oneSign c (c :: r)

structure Tok where
  kind : Int
  num : Int
  text : ByteArray
  at_ : Nat

/-- what is left behind blanks and comments (on: within one) -/
def blk : Bool → List UInt8 → List UInt8
  | _, [] => []
  | false, c :: r => if c = 32 ∨ c = 10 ∨ c = 9 then blk false r else if c = 35 then blk true r else c :: r
  | true, c :: r => if c = 10 then blk false r else blk true r

theorem blk_le : ∀ (o : Bool) (l : List UInt8), (blk o l).length ≤ l.length
  | _, [] => by simp [blk]
  | false, c :: r => by
    rw [blk]
    split
    · have := blk_le false r; simp; omega
    · split
      · have := blk_le true r; simp; omega
      · exact Nat.le_refl _
  | true, c :: r => by
    rw [blk]
    split
    · have := blk_le false r; simp; omega
    · have := blk_le true r; simp; omega

theorem blk_idem : ∀ (o : Bool) (l : List UInt8), blk false (blk o l) = blk o l
  | _, [] => by simp [blk]
  | false, c :: r => by
    rw [blk]
    split
    · exact blk_idem false r
    · split
      · exact blk_idem true r
      · rw [blk, if_neg (by assumption), if_neg (by assumption)]
  | true, c :: r => by
    rw [blk]
    split
    · exact blk_idem false r
    · exact blk_idem true r

/-- the tokens, what is wrong, and where -/
structure Res where
  toks : List Tok
  code : Int
  at_ : Nat

/-- tokens of a rest of a text of n bytes -/
def scanF (n : Nat) : Nat → List UInt8 → List Tok → Res
  | 0, _, out => ⟨out, 0, 0⟩
  | f + 1, l, out => match blk false l with
    | [] => ⟨out, 0, 0⟩
    | c :: r => match oneF (c :: r) with
      | .bad code => ⟨[], code, n - (r.length + 1)⟩
      | .tok k m s w => scanF n f ((c :: r).drop w) (out ++ [⟨k, m, ofL s, n - (r.length + 1)⟩])

theorem scanF_blk (n f : Nat) (l : List UInt8) (out : List Tok) : scanF n f (blk false l) out = scanF n f l out := by
  cases f with
  | zero => rfl
  | succ f => rw [scanF, scanF, blk_idem]

theorem scanF_blk' (n f : Nat) {l l' : List UInt8} (h : blk false l = blk false l') (out : List Tok) : scanF n f l out = scanF n f l' out := by
  rw [← scanF_blk, h, scanF_blk]

/-- the whole of Scan -/
def scanR (t : ByteArray) : Res := if 4000 < t.size then ⟨[], 1, 0⟩ else scanF t.size (t.size + 1) (toL t) []

/-- where blanks end that begin at a place -/
def blkS (o : Bool) (t : ByteArray) (j : Nat) : Nat := t.size - (blk o ((toL t).drop j)).length

/-- a token's bounds -/
def One.okW : One → List UInt8 → Prop
  | .bad _, _ => True
  | .tok _ _ s w, r => 1 ≤ w ∧ w ≤ r.length ∧ s.length ≤ w

theorem runL_pos {p : UInt8 → Bool} {c : UInt8} {r : List UInt8} (h : p c = true) : 1 ≤ runL p (c :: r) := by
  rw [runL, List.takeWhile_cons, if_pos h]; simp

theorem oneF_ok (r : List UInt8) : (oneF r).okW r := by
  cases r with
  | nil => simp [oneF, One.okW]
  | cons c r =>
    rw [oneF]
    split
    case isTrue h =>
      rw [oneWord]
      split
      · exact trivial
      · have h1 := runL_pos (p := wdB) (c := c) (r := r) (by rw [wdB, wdI]; rw [ltB] at h; simp [h])
        have h2 := runL_le wdB (c :: r)
        exact ⟨h1, h2, by rw [List.length_take]; omega⟩
    case isFalse h =>
      split
      case isTrue h =>
        rw [oneNum]
        split
        · exact trivial
        · exact ⟨runL_pos h, runL_le _ _, Nat.zero_le _⟩
      case isFalse h =>
        split
        case isTrue h =>
          rw [oneText]
          split
          · exact trivial
          · rename_i h1
            rw [not_or, Decidable.not_not] at h1
            have h2 := (List.getElem?_eq_some_iff.1 h1.2).1
            exact ⟨by omega, by simp; omega, by rw [List.length_take]; omega⟩
        case isFalse h =>
          rw [oneSign]
          split
          case isTrue h =>
            have h2 : 2 ≤ (c :: r).length := by
              cases r with
              | nil => exfalso; revert h; simp [signs2]
              | cons d r => simp
            exact ⟨by omega, h2, by rw [List.length_take]; omega⟩
          case isFalse h =>
            split
            · exact ⟨by omega, by simp, by simp⟩
            · exact trivial

/-- one token taken -/
theorem scanF_tok {n f : Nat} {c : UInt8} {r : List UInt8} {out : List Tok} {k m : Int} {s : List UInt8} {w : Nat} (hb : blk false (c :: r) = c :: r) (h : oneF (c :: r) = .tok k m s w) :
    scanF n (f + 1) (c :: r) out = scanF n f ((c :: r).drop w) (out ++ [⟨k, m, ofL s, n - (r.length + 1)⟩]) := by
  rw [scanF, hb]; simp only [h]

theorem scanF_bad {n f : Nat} {c : UInt8} {r : List UInt8} {out : List Tok} {code : Int} (hb : blk false (c :: r) = c :: r) (h : oneF (c :: r) = .bad code) :
    scanF n (f + 1) (c :: r) out = ⟨[], code, n - (r.length + 1)⟩ := by
  rw [scanF, hb]; simp only [h]

theorem scanF_nil {n f : Nat} {out : List Tok} : scanF n f [] out = ⟨out, 0, 0⟩ := by
  cases f <;> simp [scanF, blk]

end Go.Proofs.YtiaijhkcnfpamaaDoor

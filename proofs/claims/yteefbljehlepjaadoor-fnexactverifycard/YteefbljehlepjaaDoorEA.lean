/-
  Codes and their bytes: plain facts. Own work.
-/
import Derived.Test.YteefbljehlepjaaDoorSets
import Derived.Test.YteefbljehlepjaaDoorLaws0
import Derived.Test.YteefbljehlepjaaDoorCMem
namespace Go.Proofs.YteefbljehlepjaaDoor
open Go.RowKit
set_option linter.unusedVariables false

/-- a value of a pool -/
structure Vl where
  kind : Int
  num : Int
  text : ByteArray
  names : List ByteArray

/-- an instruction -/
structure Is1 where
  op : Int
  arg : Int

/-- may it stand between quotes? -/
def quoB (s : ByteArray) : Bool := decide (s.size ≤ 32) && allNm s.data.toList

def valB (v : Vl) : Bool :=
  if v.kind = 1 then decide (v.num = 0 ∨ v.num = 1) && decide (v.text.size = 0) && decide (v.names.length = 0)
  else if v.kind = 2 then decide (v.text.size = 0) && decide (v.names.length = 0)
  else if v.kind = 3 then quoB v.text && decide (v.num = 0) && decide (v.names.length = 0)
  else if v.kind = 4 then setB v.names && decide (v.num = 0) && decide (v.text.size = 0)
  else false

/-- has it an argument? -/
def argB (op : Int) : Bool := decide ((1 ≤ op ∧ op ≤ 4) ∨ op = 22 ∨ op = 23)

def insB (i : Is1) : Bool := decide (1 ≤ i.op ∧ i.op ≤ 25) && (if argB i.op then decide (0 ≤ i.arg ∧ i.arg ≤ 65535) else decide (i.arg = 0))

/-- the right shape -/
def shapB (P : List Vl) (slots : Int) (I : List Is1) : Bool := decide (P.length ≤ 4000 ∧ I.length ≤ 20000 ∧ 0 ≤ slots ∧ slots ≤ 600) && P.all valB && I.all insB

/-- one byte of a number -/
def byteAt (x : Int) (i : Nat) : Int := (x / 2 ^ (8 * i)) % 256

/-- the lowest bytes of a number, the highest of them first -/
def beB (x : Int) : Nat → List Int
  | 0 => []
  | w + 1 => byteAt x w :: beB x w

theorem beB_len (x : Int) : ∀ w, (beB x w).length = w
  | 0 => rfl
  | w + 1 => by rw [beB, List.length_cons, beB_len x w]

/-- the bytes of a text -/
def strB (s : ByteArray) : List Int := s.data.toList.map fun b => (b.toNat : Int)

theorem strB_len (s : ByteArray) : (strB s).length = s.size := by
  rw [strB, List.length_map]
  rfl

def textB (s : ByteArray) : List Int := beB s.size 1 ++ strB s

def valE (v : Vl) : List Int := beB v.kind 1 ++
  (if v.kind = 1 then beB v.num 1 else if v.kind = 2 then beB v.num 8 else if v.kind = 3 then textB v.text else if v.kind = 4 then beB v.names.length 1 ++ v.names.flatMap textB else [])

def insE (i : Is1) : List Int := beB i.op 1 ++ beB i.arg 2

def codeE (P : List Vl) (slots : Int) (I : List Is1) : List Int := [80, 76, 49] ++ beB P.length 2 ++ P.flatMap valE ++ beB slots 2 ++ beB I.length 2 ++ I.flatMap insE

def bytesV (L : List Int) : List Value := L.map (Value.int .u8)

theorem byteAt_range (x : Int) (i : Nat) : 0 ≤ byteAt x i ∧ byteAt x i < 256 := by unfold byteAt; omega

theorem valB_kind {v : Vl} (h : valB v = true) : v.kind = 1 ∨ v.kind = 2 ∨ v.kind = 3 ∨ v.kind = 4 := by
  unfold valB at h
  by_cases h1 : v.kind = 1
  · exact .inl h1
  · by_cases h2 : v.kind = 2
    · exact .inr (.inl h2)
    · by_cases h3 : v.kind = 3
      · exact .inr (.inr (.inl h3))
      · by_cases h4 : v.kind = 4
        · exact .inr (.inr (.inr h4))
        · simp [h1, h2, h3, h4] at h

/-- a valid set: at most 64 names of at most 32 bytes -/
theorem setB_sizes {ss : List ByteArray} (h : setB ss = true) : ss.length ≤ 64 ∧ ∀ s ∈ ss, s.size ≤ 32 := by
  by_cases hl : 64 < ss.length
  · rw [setB_long ss hl] at h; cases h
  · have hl' : ss.length ≤ 64 := by omega
    rw [setB_short ss hl', Bool.and_eq_true] at h
    refine ⟨hl', fun s hs => ?_⟩
    obtain ⟨j, hj, rfl⟩ := List.getElem_of_mem hs
    have := (allB_iff ss).1 h.1 j hj
    rw [nth_eq ss j hj, vnB, Bool.and_eq_true] at this
    exact (of_decide_eq_true this.1).2

theorem valE_len {v : Vl} (h : valB v = true) : (valE v).length ≤ 4000 := by
  rw [valE, List.length_append, beB_len]
  rcases valB_kind h with k | k | k | k
  · rw [if_pos k, beB_len]; omega
  · rw [if_neg (by omega), if_pos k, beB_len]; omega
  · rw [if_neg (by omega), if_neg (by omega), if_pos k, textB, List.length_append, beB_len, strB_len]
    have : quoB v.text = true := by
      unfold valB at h
      simp [k] at h
      exact h.1.1
    rw [quoB, Bool.and_eq_true] at this
    have := of_decide_eq_true this.1
    omega
  · rw [if_neg (by omega), if_neg (by omega), if_neg (by omega), if_pos k, List.length_append, beB_len]
    have hs : setB v.names = true := by
      unfold valB at h
      simp [k] at h
      exact h.1.1
    obtain ⟨h1, h2⟩ := setB_sizes hs
    have : ∀ (L : List ByteArray), (∀ s ∈ L, s.size ≤ 32) → (L.flatMap textB).length ≤ 33 * L.length := by
      intro L
      induction L with
      | nil => intro _; simp
      | cons s L ih =>
        intro hL
        have h3 := ih (fun x hx => hL x (List.mem_cons_of_mem _ hx))
        have h4 := hL s (List.mem_cons_self ..)
        rw [List.flatMap_cons, List.length_append, List.length_cons, textB, List.length_append, beB_len, strB_len]
        omega
    have := this v.names h2
    omega

end Go.Proofs.YteefbljehlepjaaDoor

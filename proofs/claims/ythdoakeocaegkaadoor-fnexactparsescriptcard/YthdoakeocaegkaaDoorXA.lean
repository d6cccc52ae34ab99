/-
  Scripts: plain facts. Own work.
-/
import Derived.Test.YthdoakeocaegkaaDoorTL
import Derived.Test.YthdoakeocaegkaaDoorSP
namespace Go.Proofs.YthdoakeocaegkaaDoor
open Go.RowKit
set_option linter.unusedVariables false

/-- an operation -/
structure Op1 where
  kind : Int
  name : ByteArray
  other : ByteArray
  text : ByteArray
  num : Int

/-- a field and the rest -/
def cutP (l : List UInt8) : List UInt8 × List UInt8 := ((Lib.cut l [32]).1, (Lib.cut l [32]).2.1)

theorem cutP_clean (l : List UInt8) (h : (32 : UInt8) ∉ l) : cutP l = (l, []) := by unfold cutP; rw [cut_clean 32 l h]

theorem cutP_hit (a b : List UInt8) (h : (32 : UInt8) ∉ a) : cutP (a ++ 32 :: b) = (a, b) := by unfold cutP; rw [cut_hit 32 a b h]

theorem cutP_le (l : List UInt8) : (cutP l).1.length ≤ l.length ∧ (cutP l).2.length ≤ l.length := by
  rcases split_cases 32 l with h | ⟨a, b, rfl, h⟩
  · rw [cutP_clean l h]; simp
  · rw [cutP_hit a b h]; simp; omega

/-- a tick's number -/
def tickV (l : List UInt8) : Int := if (1 ≤ l.length ∧ l.length ≤ 12) ∧ l.all dgB = true then lvV l else -1

def wPol : List UInt8 := [112, 111, 108, 105, 99, 121]
def wCli : List UInt8 := [99, 108, 105, 101, 110, 116]
def wCon : List UInt8 := [99, 111, 110, 115, 101, 110, 116]
def wWit : List UInt8 := [119, 105, 116, 104, 100, 114, 97, 119]
def wTok : List UInt8 := [116, 111, 107, 101, 110]
def wLoo : List UInt8 := [108, 111, 111, 107]
def wRev : List UInt8 := [114, 101, 118, 111, 107, 101]
def wTic : List UInt8 := [116, 105, 99, 107]

def noB : ByteArray := ⟨#[]⟩

/-- what a word and its rest ask for -/
def opW (word r : List UInt8) : Op1 :=
  if word = wPol then ⟨1, noB, noB, ofL r, 0⟩
  else if word = wCli then ⟨2, ofL (cutP r).1, noB, ofL (cutP r).2, 0⟩
  else if word = wCon then ⟨3, ofL (cutP r).1, ofL (cutP (cutP r).2).1, ofL (cutP (cutP r).2).2, 0⟩
  else if word = wWit then ⟨4, ofL (cutP r).1, ofL (cutP r).2, noB, 0⟩
  else if word = wTok then ⟨5, ofL (cutP r).1, noB, ofL (cutP r).2, 0⟩
  else if word = wLoo then ⟨6, ofL r, noB, noB, 0⟩
  else if word = wRev then ⟨7, ofL r, noB, noB, 0⟩
  else if word = wTic then ⟨8, noB, noB, noB, tickV r⟩
  else ⟨0, noB, noB, noB, 0⟩

def opL (line : List UInt8) : Op1 := opW (cutP line).1 (cutP line).2

/-- the lines of a text -/
def linesL (t : List UInt8) : List (List UInt8) := if (splitC 10 t).getLast? = some [] then (splitC 10 t).dropLast else splitC 10 t

/-- what a script says -/
def scriptR (t : List UInt8) : Option (List Op1) := if 60000 < t.length then none else if 400 < (linesL t).length then none else some ((linesL t).map opL)

end Go.Proofs.YthdoakeocaegkaaDoor

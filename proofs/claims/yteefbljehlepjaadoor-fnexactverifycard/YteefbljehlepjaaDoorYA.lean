/-
  The verifier's machine: plain facts. Own work.
-/
import Derived.Test.YteefbljehlepjaaDoorEX0
namespace Go.Proofs.YteefbljehlepjaaDoor
open Go.RowKit
set_option linter.unusedVariables false

/-- a state: the types on the stack, from below, and those of the slots -/
structure Vs where
  stack : List Int
  slots : List Int
deriving DecidableEq

/-- what operators take and give -/
def sigs : List (Int × Int × Int × Int) := [(8, 2, 0, 2), (9, 1, 0, 1), (10, 4, 0, 2), (11, 2, 2, 2), (12, 2, 2, 2), (13, 2, 2, 2), (14, 2, 2, 2), (15, 2, 2, 2), (16, 4, 4, 4), (17, 4, 4, 4), (18, 4, 4, 4), (21, 2, 2, 1), (22, 2, 2, 1), (23, 3, 4, 1), (24, 4, 4, 1), (25, 1, 1, 1), (26, 1, 1, 1)]

def sigB (op l r : Int) (s : Int × Int × Int × Int) : Bool := s.1 == op && (s.2.1 == l && s.2.2.1 == r)

def opT (op l r : Int) : Option Int := if op = 19 ∨ op = 20 then (if l = r then some 1 else none) else (sigs.find? (sigB op l r)).map fun s => s.2.2.2

/-- how many values an instruction pops -/
def popV (op : Int) : Nat := if op = 1 ∨ op = 2 ∨ op = 3 ∨ op = 22 ∨ op = 24 then 0 else if op = 4 ∨ op = 5 ∨ op = 6 ∨ op = 7 ∨ op = 23 ∨ op = 25 then 1 else 2

def attrT (n : Int) : Int := if n < 2 then 3 else if n < 4 then 2 else 4

def topV (st : List Int) : Int := st.getLast?.getD 0

def atV (l : List Int) (x : Int) : Int := l.getD x.toNat 0

def rangeV (np S M at_ : Nat) (i : Is1) : Bool :=
  if i.op = 1 then decide (i.arg < np) else if i.op = 2 then decide (i.arg < 6) else if i.op = 3 ∨ i.op = 4 then decide (i.arg < S) else if i.op = 22 ∨ i.op = 23 then decide ((at_ : Int) < i.arg ∧ i.arg < M) else true

/-- the type of an operator's result, if its operands fit -/
def resV (op : Int) (st : List Int) : Option Int := if popV op = 1 then opT (op + 3) (topV st) 0 else opT (op + 3) (st.getD (st.length - 2) 0) (topV st)

def takesV (i : Is1) (s : Vs) : Bool :=
  if i.op = 1 ∨ i.op = 2 ∨ i.op = 3 ∨ i.op = 22 ∨ i.op = 24 then true
  else if i.op = 4 then decide (atV s.slots i.arg = 0 ∨ atV s.slots i.arg = topV s.stack)
  else if i.op = 23 then decide (topV s.stack = 1)
  else if i.op = 25 then decide (topV s.stack = 4)
  else (resV i.op s.stack).isSome

def pushV (PK : List Int) (i : Is1) (s : Vs) : Int :=
  if i.op = 1 then atV PK i.arg else if i.op = 2 then attrT i.arg else if i.op = 3 then atV s.slots i.arg
  else if i.op = 4 ∨ i.op = 22 ∨ i.op = 23 ∨ i.op = 24 ∨ i.op = 25 then 0 else (resV i.op s.stack).getD 0

def behindV (PK : List Int) (i : Is1) (s : Vs) : Vs :=
  if i.op = 4 then ⟨s.stack.take (s.stack.length - 1), s.slots.set i.arg.toNat (topV s.stack)⟩
  else if pushV PK i s = 0 then ⟨s.stack.take (s.stack.length - popV i.op), s.slots⟩
  else ⟨s.stack.take (s.stack.length - popV i.op) ++ [pushV PK i s], s.slots⟩

/-- what is wrong at a place (0: nothing), and the state behind it -/
def stepV (PK : List Int) (S M at_ : Nat) (i : Is1) (s : Vs) : Int × Vs :=
  if rangeV PK.length S M at_ i = false then (3, s)
  else if s.stack.length < popV i.op then (4, s)
  else if takesV i s = false then (5, s)
  else if i.op = 3 ∧ atV s.slots i.arg = 0 then (6, s)
  else if 100 < (behindV PK i s).stack.length then (7, s)
  else (0, behindV PK i s)

def nextV (at_ : Nat) (i : Is1) : List Nat := if i.op = 24 ∨ i.op = 25 then [] else if i.op = 22 then [i.arg.toNat] else if i.op = 23 then [at_ + 1, i.arg.toNat] else [at_ + 1]

/-- the state is made known where it goes on -/
def goV (t : Vs) : List Nat → List (Option Vs) → Int × List (Option Vs)
  | [], k => (0, k)
  | n :: ns, k => if n = k.length then (8, k) else match k.getD n none with
    | none => goV t ns (k.set n (some t))
    | some u => if u = t then goV t ns k else (9, k)

def runV (PK : List Int) (S : Nat) (I : List Is1) : Nat → Nat → List (Option Vs) → Nat → Int × Int
  | 0, _, _, b => ((b : Int), 0)
  | r + 1, at_, k, b => match k.getD at_ none with
    | none => (0, 2)
    | some s =>
      if (stepV PK S I.length at_ (I.getD at_ ⟨0, 0⟩) s).1 ≠ 0 then (0, (stepV PK S I.length at_ (I.getD at_ ⟨0, 0⟩) s).1)
      else if (goV (stepV PK S I.length at_ (I.getD at_ ⟨0, 0⟩) s).2 (nextV at_ (I.getD at_ ⟨0, 0⟩)) k).1 ≠ 0 then (0, (goV (stepV PK S I.length at_ (I.getD at_ ⟨0, 0⟩) s).2 (nextV at_ (I.getD at_ ⟨0, 0⟩)) k).1)
      else runV PK S I r (at_ + 1) (goV (stepV PK S I.length at_ (I.getD at_ ⟨0, 0⟩) s).2 (nextV at_ (I.getD at_ ⟨0, 0⟩)) k).2 (max b (max s.stack.length (stepV PK S I.length at_ (I.getD at_ ⟨0, 0⟩) s).2.stack.length))

/-- what the verifier says of a code -/
def verR (P : List Vl) (s : Int) (I : List Is1) : Int × Int :=
  if shapB P s I = false then (0, 1) else if I = [] then (0, 8)
  else runV (P.map Vl.kind) s.toNat I I.length 0 ((List.replicate I.length none).set 0 (some ⟨[], List.replicate s.toNat 0⟩)) 0

theorem goV_len (t : Vs) : ∀ (ns : List Nat) (k : List (Option Vs)), (goV t ns k).2.length = k.length
  | [], k => rfl
  | n :: ns, k => by
    rw [goV]
    split
    · rfl
    split
    · rw [goV_len t ns]; simp
    split
    · exact goV_len t ns k
    · rfl

/-- the bar on a stack's height keeps it small -/
theorem stepV_height {PK : List Int} {S M at_ : Nat} {i : Is1} {s : Vs} (h : (stepV PK S M at_ i s).1 = 0) : (stepV PK S M at_ i s).2.stack.length ≤ 100 := by
  unfold stepV at *
  split at h
  · cases h
  split at h
  · cases h
  split at h
  · cases h
  split at h
  · cases h
  split at h
  · cases h
  · rename_i h1 h2 h3 h4 h5
    rw [if_neg h1, if_neg h2, if_neg h3, if_neg h4, if_neg h5]
    show (behindV PK i s).stack.length ≤ 100
    omega

theorem stepV_slots {PK : List Int} {S M at_ : Nat} {i : Is1} {s : Vs} : (stepV PK S M at_ i s).2.slots.length = s.slots.length := by
  have hb : (behindV PK i s).slots.length = s.slots.length := by
    unfold behindV
    split
    · simp
    split <;> rfl
  unfold stepV
  repeat' split
  all_goals first | rfl | exact hb

/-- each operator's line of the table -/
theorem opT_bin (op l r : Int) (h0 : 11 ≤ op) (h1 : op ≤ 24) : opT op l r =
    if op ≤ 15 then (if l = 2 ∧ r = 2 then some 2 else none)
    else if op ≤ 18 then (if l = 4 ∧ r = 4 then some 4 else none)
    else if op ≤ 20 then (if l = r then some 1 else none)
    else if op ≤ 22 then (if l = 2 ∧ r = 2 then some 1 else none)
    else if op = 23 then (if l = 3 ∧ r = 4 then some 1 else none)
    else (if l = 4 ∧ r = 4 then some 1 else none) := by
  have : op = 11 ∨ op = 12 ∨ op = 13 ∨ op = 14 ∨ op = 15 ∨ op = 16 ∨ op = 17 ∨ op = 18 ∨ op = 19 ∨ op = 20 ∨ op = 21 ∨ op = 22 ∨ op = 23 ∨ op = 24 := by omega
  rcases this with rfl | rfl | rfl | rfl | rfl | rfl | rfl | rfl | rfl | rfl | rfl | rfl | rfl | rfl
  case inr.inr.inr.inr.inr.inr.inr.inr.inl => simp [opT]
  case inr.inr.inr.inr.inr.inr.inr.inr.inr.inl => simp [opT]
  all_goals
    simp only [opT, sigs, sigB, List.find?]
    simp
    split <;> rename_i hh <;> simp at hh
    · rw [if_pos (by constructor <;> omega)]; rfl
    · rw [if_neg (by omega)]; rfl

theorem opT_un (op l : Int) (h0 : 8 ≤ op) (h1 : op ≤ 10) : opT op l 0 = if op = 8 then (if l = 2 then some 2 else none) else if op = 9 then (if l = 1 then some 1 else none) else (if l = 4 then some 2 else none) := by
  have : op = 8 ∨ op = 9 ∨ op = 10 := by omega
  rcases this with rfl | rfl | rfl
  all_goals
    simp only [opT, sigs, sigB, List.find?]
    simp
    split <;> rename_i hh <;> simp at hh
    · rw [if_pos (by omega)]; rfl
    · rw [if_neg (by omega)]; rfl

end Go.Proofs.YteefbljehlepjaaDoor

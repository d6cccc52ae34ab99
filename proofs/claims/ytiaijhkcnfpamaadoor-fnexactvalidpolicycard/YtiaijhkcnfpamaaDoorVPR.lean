/-
  What a valid policy is: the model's way and the program's. Own work.
-/
import Derived.Test.YtiaijhkcnfpamaaDoorVPQ
import Derived.Test.YtiaijhkcnfpamaaDoorTK
import Derived.Test.YtiaijhkcnfpamaaDoorSets
namespace Go.Proofs.YtiaijhkcnfpamaaDoor
open Go.RowKit
set_option linter.unusedVariables false

structure Nd where
  op : Int
  num : Int
  text : ByteArray
  names : List ByteArray
  kids : List Int

structure St where
  kind : Int
  name : ByteArray
  cond : Int
  grant : Int

/-- how many kids -/
def kidN (op : Int) : Int := if 1 ≤ op ∧ op ≤ 7 then 0 else if 8 ≤ op ∧ op ≤ 10 then 1 else if 11 ≤ op ∧ op ≤ 26 then 2 else if op = 27 then 3 else -1

/-- could it be a name of the language? -/
def identB (s : ByteArray) : Bool := match toL s with
  | [] => false
  | c :: r => decide ((c :: r).length ≤ 32) && ltB c && (c :: r).all wdB && !isWd (c :: r)

/-- could it stand between quotes? -/
def quotedB (s : ByteArray) : Bool := decide (s.size ≤ 32) && (toL s).all nmB

/-- are the fields of a node as written right? -/
def fieldsB (x : Nd) : Bool :=
  decide ((x.kids.length : Int) = kidN x.op) &&
  (if x.op = 1 then decide (0 ≤ x.num) && decide (x.text.size = 0) && decide (x.names.length = 0)
   else if x.op = 2 then quotedB x.text && decide (x.num = 0) && decide (x.names.length = 0)
   else if x.op = 3 then decide (x.num = 0 ∨ x.num = 1) && decide (x.text.size = 0) && decide (x.names.length = 0)
   else if x.op = 4 then setB x.names && decide (x.num = 0) && decide (x.text.size = 0)
   else if x.op = 5 then identB x.text && decide (x.num = 0) && decide (x.names.length = 0)
   else if x.op = 6 ∨ x.op = 7 then false
   else decide (x.num = 0) && decide (x.text.size = 0) && decide (x.names.length = 0))

/-- a statement, as the model asks for it -/
def stmtS (last : Bool) (s : St) : Bool :=
  if s.kind = 1 then !last && identB s.name && decide (0 ≤ s.cond) && decide (s.grant = -1)
  else if s.kind = 2 then !last && decide (s.name.size = 0) && decide (0 ≤ s.cond) && decide (-1 ≤ s.grant)
  else if s.kind = 3 then last && decide (s.name.size = 0) && decide (s.cond = -1) && decide (-1 ≤ s.grant)
  else false

/-- a statement, as the program asks for it -/
def stmtI (s : St) : Bool :=
  if s.kind = 1 then identB s.name && decide (s.grant = -1)
  else if s.kind = 2 then decide (s.name.size = 0)
  else if s.kind = 3 then decide (s.name.size = 0) && decide (s.cond = -1)
  else false

def rootsOf (s : St) : List Int := (if 0 ≤ s.cond then [s.cond] else []) ++ (if 0 ≤ s.grant then [s.grant] else [])
def askedOf (s : St) : List Int := (if s.kind ≠ 3 then [s.cond] else []) ++ (if s.grant ≠ -1 then [s.grant] else [])

def stmtsS : List St → Bool
  | [] => true
  | s :: r => stmtS r.isEmpty s && stmtsS r

def stmtsI : List St → Bool
  | [] => true
  | s :: r => stmtI s && (decide (s.kind = 3) == r.isEmpty) && stmtsI r

/-- where no place asked for is negative, the two say the same of the statements -/
theorem stmts_same : ∀ (L : List St), (∀ x ∈ L.flatMap askedOf, 0 ≤ x) → (stmtsI L = true ↔ stmtsS L = true)
  | [], _ => Iff.rfl
  | s :: r, h => by
    have ih := stmts_same r (fun x hx => h x (by rw [List.flatMap_cons]; exact List.mem_append_right _ hx))
    have hs : ∀ x ∈ askedOf s, 0 ≤ x := fun x hx => h x (by rw [List.flatMap_cons]; exact List.mem_append_left _ hx)
    rw [stmtsI, stmtsS, Bool.and_eq_true, Bool.and_eq_true, Bool.and_eq_true, ih]
    have e : (stmtI s = true ∧ (decide (s.kind = 3) == r.isEmpty) = true) ↔ stmtS r.isEmpty s = true := by
      have hc : s.kind ≠ 3 → 0 ≤ s.cond := fun k => hs _ (by rw [askedOf, if_pos k]; simp)
      have hg : s.grant ≠ -1 → 0 ≤ s.grant := fun k => hs _ (by rw [askedOf, if_pos k]; simp)
      generalize r.isEmpty = last
      unfold stmtI stmtS
      by_cases k1 : s.kind = 1
      · simp [k1]
        have := hc (by omega)
        cases last <;> simp [this]
      · by_cases k2 : s.kind = 2
        · simp [k2]
          have h1 := hc (by omega)
          have h2 : -1 ≤ s.grant := by by_cases k : s.grant = -1; omega; have := hg k; omega
          cases last <;> simp [h1, h2]
        · by_cases k3 : s.kind = 3
          · simp [k3]
            have h2 : -1 ≤ s.grant := by by_cases k : s.grant = -1; omega; have := hg k; omega
            cases last <;> simp [h2]
          · simp [k1, k2, k3]
    rw [← e, and_assoc]

theorem roots_asked : ∀ {last : Bool} {s : St}, stmtS last s = true → rootsOf s = askedOf s ∧ ∀ x ∈ askedOf s, 0 ≤ x := by
  intro last s h
  unfold stmtS at h
  unfold rootsOf askedOf
  by_cases k1 : s.kind = 1
  · simp [k1] at h
    obtain ⟨⟨_, h1⟩, h2⟩ := h
    simp [k1, h1, h2]
  · by_cases k2 : s.kind = 2
    · simp [k2] at h
      obtain ⟨⟨_, h1⟩, h2⟩ := h
      by_cases hg : s.grant = -1
      · simp [k2, h1, hg]
      · have : 0 ≤ s.grant := by omega
        simp [k2, h1, hg, this]
    · by_cases k3 : s.kind = 3
      · simp [k3] at h
        obtain ⟨⟨_, h1⟩, h2⟩ := h
        by_cases hg : s.grant = -1
        · simp [k3, h1, hg]
        · have : 0 ≤ s.grant := by omega
          simp [k3, h1, hg, this]
      · simp [k1, k2, k3] at h

theorem roots_all : ∀ {L : List St}, stmtsS L = true → L.flatMap rootsOf = L.flatMap askedOf ∧ ∀ x ∈ L.flatMap askedOf, 0 ≤ x
  | [], _ => ⟨rfl, fun x hx => by cases hx⟩
  | s :: r, h => by
    rw [stmtsS, Bool.and_eq_true] at h
    obtain ⟨e1, h1⟩ := roots_asked h.1
    obtain ⟨e2, h2⟩ := roots_all h.2
    refine ⟨by rw [List.flatMap_cons, List.flatMap_cons, e1, e2], fun x hx => ?_⟩
    rw [List.flatMap_cons] at hx
    rcases List.mem_append.1 hx with k | k
    · exact h1 x k
    · exact h2 x k

/-- valid, by the model's walk -/
def ValidS (N : List Nd) (L : List St) : Prop :=
  stmtsS L = true ∧ ((L.flatMap rootsOf).foldl (fun o k => walkF (N.map Nd.kids) N.length k o) []).length = N.length ∧ good ((L.flatMap rootsOf).foldl (fun o k => walkF (N.map Nd.kids) N.length k o) []) ∧ ∀ r ∈ L.flatMap rootsOf, depthF (N.map Nd.kids) N.length r ≤ 64

/-- valid, by the program's stack -/
def ValidI (N : List Nd) (L : List St) : Prop := stmtsI L = true ∧ ∃ S, runT (N.map Nd.kids) N.length [] 0 = some S ∧ topsI S = L.flatMap askedOf

theorem valid_same (N : List Nd) (L : List St) : ValidI N L ↔ ValidS N L := by
  have hs := shape_iff (N.map Nd.kids) (L.flatMap askedOf)
  rw [List.length_map] at hs
  constructor
  · rintro ⟨h1, S, h2, h3⟩
    have h0 : ∀ x ∈ L.flatMap askedOf, 0 ≤ x := by
      rw [← h3]
      intro x hx
      obtain ⟨p, _, rfl⟩ := List.mem_map.1 hx
      omega
    have h4 := (stmts_same L h0).1 h1
    have e := (roots_all h4).1
    unfold ValidS
    rw [e]
    exact ⟨h4, hs.2 ⟨S, h2, h3⟩⟩
  · rintro ⟨h1, h2⟩
    obtain ⟨e, h0⟩ := roots_all h1
    rw [e] at h2
    exact ⟨(stmts_same L h0).2 h1, hs.1 h2⟩

end Go.Proofs.YtiaijhkcnfpamaaDoor

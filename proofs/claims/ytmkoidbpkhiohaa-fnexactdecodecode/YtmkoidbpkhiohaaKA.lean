/-
  Codes read from bytes: two readers, the same where they do not break. Own work.
-/
import Derived.Test.YtmkoidbpkhiohaaEX0
namespace Go.Proofs.Ytmkoidbpkhiohaa
open Go.RowKit
set_option linter.unusedVariables false

/-- a reader: the bytes that are left, and whether it is broken -/
abbrev Rs := List Int × Bool

/-- the program's -/
def takeI (n : Nat) (s : Rs) : List Int × Rs := if s.1.length < n then ([], s.1, true) else (s.1.take n, s.1.drop n, s.2)

/-- the model's -/
def takeS (n : Nat) (s : Rs) : List Int × Rs := if s.1.length < n then ([], [], true) else (s.1.take n, s.1.drop n, s.2)

/-- a number of bytes, the highest first -/
def numF (L : List Int) : Int := L.foldl (fun v c => wrap64 (v * 256 + c)) 0

/-- one behind the other -/
def bnd {α β : Type} (f : Rs → α × Rs) (k : α → Rs → β × Rs) : Rs → β × Rs := fun s => k (f s).1 (f s).2

def rt {α : Type} (a : α) : Rs → α × Rs := fun s => (a, s)

def numI (n : Nat) : Rs → Int × Rs := bnd (takeI n) fun a => rt (numF a)
def numS (n : Nat) : Rs → Int × Rs := bnd (takeS n) fun a => rt (numF a)

/-- bytes as a text -/
def bstr (L : List Int) : ByteArray := ⟨(L.map fun x => UInt8.ofNat x.toNat).toArray⟩

def textI : Rs → ByteArray × Rs := bnd (numI 1) fun k => bnd (takeI k.toNat) fun a => rt (bstr a)
def textS : Rs → ByteArray × Rs := bnd (numS 1) fun k => bnd (takeS k.toNat) fun a => rt (bstr a)

/-- as many as are wanted, while it is not broken -/
def manyI {α : Type} (f : Rs → α × Rs) : Nat → Rs → List α × Rs
  | 0, s => ([], s)
  | k + 1, s => if s.2 then ([], s) else ((f s).1 :: (manyI f k (f s).2).1, (manyI f k (f s).2).2)

/-- as many as are wanted, broken or not -/
def manyS {α : Type} (f : Rs → α × Rs) : Nat → Rs → List α × Rs
  | 0, s => ([], s)
  | k + 1, s => ((f s).1 :: (manyS f k (f s).2).1, (manyS f k (f s).2).2)

def valKI (k : Int) : Rs → Vl × Rs :=
  if k = 1 then bnd (numI 1) fun a => rt ⟨k, a, ⟨#[]⟩, []⟩
  else if k = 2 then bnd (numI 8) fun a => rt ⟨k, a, ⟨#[]⟩, []⟩
  else if k = 3 then bnd textI fun a => rt ⟨k, 0, a, []⟩
  else if k = 4 then bnd (numI 1) fun n => bnd (manyI textI n.toNat) fun a => rt ⟨k, 0, ⟨#[]⟩, a⟩
  else rt ⟨k, 0, ⟨#[]⟩, []⟩

def valI : Rs → Vl × Rs := bnd (numI 1) valKI

def valKS (k : Int) : Rs → Vl × Rs :=
  if k = 1 then bnd (numS 1) fun a => rt ⟨k, a, ⟨#[]⟩, []⟩
  else if k = 2 then bnd (numS 8) fun a => rt ⟨k, a, ⟨#[]⟩, []⟩
  else if k = 3 then bnd textS fun a => rt ⟨k, 0, a, []⟩
  else if k = 4 then bnd (numS 1) fun n => bnd (manyS textS n.toNat) fun a => rt ⟨k, 0, ⟨#[]⟩, a⟩
  else rt ⟨k, 0, ⟨#[]⟩, []⟩

def valS : Rs → Vl × Rs := bnd (numS 1) valKS

def insI : Rs → Is1 × Rs := bnd (numI 1) fun a => bnd (numI 2) fun b => rt ⟨a, b⟩
def insS : Rs → Is1 × Rs := bnd (numS 1) fun a => bnd (numS 2) fun b => rt ⟨a, b⟩

structure Cd where
  pool : List Vl
  slots : Int
  ins : List Is1

/-- what stands behind the mark -/
def bodyI : Rs → Cd × Rs := bnd (numI 2) fun n => bnd (manyI valI n.toNat) fun p => bnd (numI 2) fun sl => bnd (numI 2) fun m => bnd (manyI insI m.toNat) fun i => rt ⟨p, sl, i⟩

def bodyS : Rs → Cd × Rs := bnd (numS 2) fun n => bnd (manyI valS n.toNat) fun p => bnd (numS 2) fun sl => bnd (numS 2) fun m => bnd (manyI insS m.toNat) fun i => rt ⟨p, sl, i⟩

/-- two readers: broken, they stay so; else they do the same, or both break -/
def Agree {α : Type} (f g : Rs → α × Rs) : Prop := ∀ s : Rs, (s.2 = true → (f s).2.2 = true ∧ (g s).2.2 = true) ∧ (s.2 = false → f s = g s ∨ ((f s).2.2 = true ∧ (g s).2.2 = true))

theorem Agree.bnd {α β : Type} {f g : Rs → α × Rs} {f' g' : α → Rs → β × Rs} (h : Agree f g) (h' : ∀ a, Agree (f' a) (g' a)) : Agree (bnd f f') (bnd g g') := fun s => by
  refine ⟨fun hs => ⟨((h' _ _).1 ((h s).1 hs).1).1, ((h' _ _).1 ((h s).1 hs).2).2⟩, fun hs => ?_⟩
  rcases (h s).2 hs with e | ⟨e1, e2⟩
  · show f' (f s).1 (f s).2 = g' (g s).1 (g s).2 ∨ (f' (f s).1 (f s).2).2.2 = true ∧ (g' (g s).1 (g s).2).2.2 = true
    rw [e]
    cases hb : (g s).2.2 with
    | true => exact .inr ((h' _ _).1 hb)
    | false => exact (h' _ _).2 hb
  · exact .inr ⟨((h' _ _).1 e1).1, ((h' _ _).1 e2).2⟩

theorem Agree.rt {α : Type} (a : α) : Agree (rt a) (rt a) := fun s => ⟨fun h => ⟨h, h⟩, fun _ => .inl rfl⟩

theorem takeAgree (n : Nat) : Agree (takeI n) (takeS n) := fun s => by
  unfold takeI takeS
  by_cases h : s.1.length < n
  · simp [h]
  · rw [if_neg h, if_neg h]
    exact ⟨fun e => ⟨e, e⟩, fun _ => .inl rfl⟩

theorem numAgree (n : Nat) : Agree (numI n) (numS n) := (takeAgree n).bnd fun a => Agree.rt _

theorem textAgree : Agree textI textS := (numAgree 1).bnd fun k => (takeAgree k.toNat).bnd fun a => Agree.rt _

/-- broken, it stays so -/
theorem manyI_broken {α : Type} {f : Rs → α × Rs} : ∀ (k : Nat) (s : Rs), s.2 = true → (manyI f k s).2.2 = true
  | 0, s, h => h
  | k + 1, s, h => by rw [manyI, if_pos h]; exact h

theorem manyS_broken {α : Type} {f g : Rs → α × Rs} (h : Agree f g) : ∀ (k : Nat) (s : Rs), s.2 = true → (manyS g k s).2.2 = true
  | 0, s, hs => hs
  | k + 1, s, hs => by rw [manyS]; exact manyS_broken h k _ ((h s).1 hs).2

theorem manyAgree {α : Type} {f g : Rs → α × Rs} (h : Agree f g) : ∀ k, Agree (manyI f k) (manyI g k)
  | 0 => fun s => ⟨fun e => ⟨e, e⟩, fun _ => .inl rfl⟩
  | k + 1 => fun s => by
    refine ⟨fun e => ⟨manyI_broken _ _ e, manyI_broken _ _ e⟩, fun e => ?_⟩
    simp only [manyI, e]
    have ih := manyAgree h k
    rcases (h s).2 e with h1 | ⟨h1, h2⟩
    · simp only [h1]
      cases hb : (g s).2.2 with
      | true => exact .inr ⟨manyI_broken _ _ hb, manyI_broken _ _ hb⟩
      | false =>
        rcases (ih (g s).2).2 hb with e1 | e1
        · left; simp [e1]
        · right; simpa using e1
    · exact .inr ⟨manyI_broken _ _ h1, manyI_broken _ _ h2⟩

theorem manyAgreeS {α : Type} {f g : Rs → α × Rs} (h : Agree f g) : ∀ k, Agree (manyI f k) (manyS g k)
  | 0 => fun s => ⟨fun e => ⟨e, e⟩, fun _ => .inl rfl⟩
  | k + 1 => fun s => by
    refine ⟨fun e => ⟨manyI_broken _ _ e, manyS_broken h _ _ e⟩, fun e => ?_⟩
    simp only [manyI, manyS, e]
    have ih := manyAgreeS h k
    rcases (h s).2 e with h1 | ⟨h1, h2⟩
    · simp only [h1]
      cases hb : (g s).2.2 with
      | true => exact .inr ⟨manyI_broken _ _ hb, manyS_broken h _ _ hb⟩
      | false =>
        rcases (ih (g s).2).2 hb with e1 | e1
        · left; simp [e1]
        · right; simpa using e1
    · exact .inr ⟨manyI_broken _ _ h1, manyS_broken h _ _ h2⟩

theorem valAgree : Agree valI valS := (numAgree 1).bnd fun k => by
  unfold valKI valKS
  by_cases h1 : k = 1
  · rw [if_pos h1, if_pos h1]; exact (numAgree 1).bnd fun a => Agree.rt _
  rw [if_neg h1, if_neg h1]
  by_cases h2 : k = 2
  · rw [if_pos h2, if_pos h2]; exact (numAgree 8).bnd fun a => Agree.rt _
  rw [if_neg h2, if_neg h2]
  by_cases h3 : k = 3
  · rw [if_pos h3, if_pos h3]; exact textAgree.bnd fun a => Agree.rt _
  rw [if_neg h3, if_neg h3]
  by_cases h4 : k = 4
  · rw [if_pos h4, if_pos h4]; exact (numAgree 1).bnd fun n => (manyAgreeS textAgree n.toNat).bnd fun a => Agree.rt _
  rw [if_neg h4, if_neg h4]
  exact Agree.rt _

theorem insAgree : Agree insI insS := (numAgree 1).bnd fun a => (numAgree 2).bnd fun b => Agree.rt _

theorem bodyAgree : Agree bodyI bodyS := (numAgree 2).bnd fun n => (manyAgree valAgree n.toNat).bnd fun p => (numAgree 2).bnd fun sl => (numAgree 2).bnd fun m => (manyAgree insAgree m.toNat).bnd fun i => Agree.rt _

end Go.Proofs.Ytmkoidbpkhiohaa

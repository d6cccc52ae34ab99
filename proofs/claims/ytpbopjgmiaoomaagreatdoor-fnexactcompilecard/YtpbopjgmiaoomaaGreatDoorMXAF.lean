/-
  EA, COA, COB, VPN, EB0, Byte1, Own0, KP0, EB, QS0. Own work.
-/
import Derived.Test.YtpbopjgmiaoomaaGreatDoorMXAB
import Derived.Test.YtpbopjgmiaoomaaGreatDoorMXAD
import Derived.Test.YtpbopjgmiaoomaaGreatDoorVPK
import Derived.Deep.AppendLies
import Derived.Deep.RegionHeld3
import Derived.Deep.RegionLaw
import Derived.OwnWalk
import Derived.Laws.BytesString
import Derived.Laws.AppendOwn
namespace Go.Proofs.YtpbopjgmiaoomaaGreatDoor
open Go.RowKit
set_option linter.unusedVariables false

/-- a value of a pool -/
structure Vl where
  kind : Int
  num : Int
  text : ByteArray
  names : List ByteArray

/-- an instruction -/
structure Is1 where
  op : Int
  arg : Int

/-- may it stand between quotes? -/
def quoB (s : ByteArray) : Bool := decide (s.size ≤ 32) && allNm s.data.toList

def valB (v : Vl) : Bool :=
  if v.kind = 1 then decide (v.num = 0 ∨ v.num = 1) && decide (v.text.size = 0) && decide (v.names.length = 0)
  else if v.kind = 2 then decide (v.text.size = 0) && decide (v.names.length = 0)
  else if v.kind = 3 then quoB v.text && decide (v.num = 0) && decide (v.names.length = 0)
  else if v.kind = 4 then setB v.names && decide (v.num = 0) && decide (v.text.size = 0)
  else false

/-- one byte of a number -/
def byteAt (x : Int) (i : Nat) : Int := (x / 2 ^ (8 * i)) % 256

/-- the lowest bytes of a number, the highest of them first -/
def beB (x : Int) : Nat → List Int
  | 0 => []
  | w + 1 => byteAt x w :: beB x w

theorem beB_len (x : Int) : ∀ w, (beB x w).length = w
  | 0 => rfl
  | w + 1 => by rw [beB, List.length_cons, beB_len x w]

/-- the bytes of a text -/
def strB (s : ByteArray) : List Int := s.data.toList.map fun b => (b.toNat : Int)

theorem strB_len (s : ByteArray) : (strB s).length = s.size := by
  rw [strB, List.length_map]
  rfl

def textB (s : ByteArray) : List Int := beB s.size 1 ++ strB s

def valE (v : Vl) : List Int := beB v.kind 1 ++
  (if v.kind = 1 then beB v.num 1 else if v.kind = 2 then beB v.num 8 else if v.kind = 3 then textB v.text else if v.kind = 4 then beB v.names.length 1 ++ v.names.flatMap textB else [])

def bytesV (L : List Int) : List Value := L.map (Value.int .u8)

theorem byteAt_range (x : Int) (i : Nat) : 0 ≤ byteAt x i ∧ byteAt x i < 256 := by unfold byteAt; omega

theorem valB_kind {v : Vl} (h : valB v = true) : v.kind = 1 ∨ v.kind = 2 ∨ v.kind = 3 ∨ v.kind = 4 := by
  unfold valB at h
  by_cases h1 : v.kind = 1
  · exact .inl h1
  · by_cases h2 : v.kind = 2
    · exact .inr (.inl h2)
    · by_cases h3 : v.kind = 3
      · exact .inr (.inr (.inl h3))
      · by_cases h4 : v.kind = 4
        · exact .inr (.inr (.inr h4))
        · simp [h1, h2, h3, h4] at h

/-- a valid set: at most 64 names of at most 32 bytes -/
theorem setB_sizes {ss : List ByteArray} (h : setB ss = true) : ss.length ≤ 64 ∧ ∀ s ∈ ss, s.size ≤ 32 := by
  by_cases hl : 64 < ss.length
  · rw [setB_long ss hl] at h; cases h
  · have hl' : ss.length ≤ 64 := by omega
    rw [setB_short ss hl', Bool.and_eq_true] at h
    refine ⟨hl', fun s hs => ?_⟩
    obtain ⟨j, hj, rfl⟩ := List.getElem_of_mem hs
    have := (allB_iff ss).1 h.1 j hj
    rw [nth_eq ss j hj, vnB, Bool.and_eq_true] at this
    exact (of_decide_eq_true this.1).2

end Go.Proofs.YtpbopjgmiaoomaaGreatDoor

namespace Go.Proofs.YtpbopjgmiaoomaaGreatDoor
open Go.RowKit
set_option linter.unusedVariables false

/-- what a compiler holds: the pool, the slots, the instructions -/
structure Cs where
  pool : List Vl
  slots : Nat
  ins : List Is1

/-- an instruction of the model's, a constant's value with it -/
structure I5 where
  op : Int
  arg : Int
  val : Vl

def zeroV : Vl := ⟨0, 0, ⟨#[]⟩, []⟩

/-- a constant's value -/
def exV : Ex → Vl
  | .int _ n => ⟨2, n, ⟨#[]⟩, []⟩
  | .text _ s => ⟨3, 0, s, []⟩
  | .bool _ b => ⟨1, if b then 1 else 0, ⟨#[]⟩, []⟩
  | .set _ _ _ _ ss => ⟨4, 0, ⟨#[]⟩, ss⟩
  | _ => zeroV

open Classical in
/-- where a value lies in the pool, from a place on -/
noncomputable def findV (v : Vl) : List Vl → Nat → Option Nat
  | [], _ => none
  | u :: r, k => if u = v then some k else findV v r (k + 1)

/-- the place of a value -/
noncomputable def placeV (P : List Vl) (v : Vl) : Nat := (findV v P 0).getD P.length

/-- the pool with a value -/
noncomputable def poolW (P : List Vl) (v : Vl) : List Vl := if (findV v P 0).isSome then P else P ++ [v]

/-- one instruction is written -/
noncomputable def putI (s : Cs) (i : I5) : Cs := if i.op = 1 then ⟨poolW s.pool i.val, s.slots, s.ins ++ [⟨1, placeV s.pool i.val⟩]⟩ else ⟨s.pool, s.slots, s.ins ++ [⟨i.op, i.arg⟩]⟩

noncomputable def linkI (s : Cs) (L : List I5) : Cs := L.foldl putI s

theorem linkI_app (s : Cs) (L M : List I5) : linkI s (L ++ M) = linkI (linkI s L) M := List.foldl_append ..

theorem linkI_one (s : Cs) (i : I5) : linkI s [i] = putI s i := rfl

theorem putI_len (s : Cs) (i : I5) : (putI s i).ins.length = s.ins.length + 1 := by unfold putI; split <;> simp

theorem linkI_len : ∀ (L : List I5) (s : Cs), (linkI s L).ins.length = s.ins.length + L.length
  | [], s => rfl
  | i :: L, s => by
    show (linkI (putI s i) L).ins.length = _
    rw [linkI_len L, putI_len, List.length_cons]; omega

/-- an argument is written over -/
def patchI (s : Cs) (at_ : Nat) (arg : Int) : Cs := ⟨s.pool, s.slots, s.ins.modify at_ fun i => ⟨i.op, arg⟩⟩

theorem putI_patch (s : Cs) (k : Nat) (a : Int) (i : I5) (h : k < s.ins.length) : putI (patchI s k a) i = patchI (putI s i) k a := by
  unfold putI patchI
  have q : ∀ x : Is1, (s.ins.modify k fun i => ⟨i.op, a⟩) ++ [x] = (s.ins ++ [x]).modify k fun i => ⟨i.op, a⟩ := fun x => by
    apply List.ext_getElem?
    intro j
    rw [List.getElem?_modify]
    by_cases hj : j < s.ins.length
    · rw [List.getElem?_append_left (by simpa using hj), List.getElem?_append_left hj, List.getElem?_modify]
    · rw [List.getElem?_append_right (by simpa using hj), List.getElem?_append_right (by omega), List.length_modify]
      have : ¬ k = j := by omega
      simp [this]
  split
  · simp only [q]
  · simp only [q]

theorem linkI_patch : ∀ (L : List I5) (s : Cs) (k : Nat) (a : Int), k < s.ins.length → linkI (patchI s k a) L = patchI (linkI s L) k a
  | [], s, k, a, _ => rfl
  | i :: L, s, k, a, h => by
    show linkI (putI (patchI s k a) i) L = patchI (linkI (putI s i) L) k a
    rw [putI_patch s k a i h, linkI_patch L (putI s i) k a (by rw [putI_len]; omega)]

/-- a jump, written over behind it -/
theorem jump_patch (s : Cs) (op : Int) (a : Int) (h : op ≠ 1) : patchI (putI s ⟨op, 0, zeroV⟩) s.ins.length a = putI s ⟨op, a, zeroV⟩ := by
  unfold putI patchI
  rw [if_neg h, if_neg h]
  simp only [Cs.mk.injEq, true_and]
  apply List.ext_getElem?
  intro j
  rw [List.getElem?_modify]
  by_cases hj : j < s.ins.length
  · have : ¬ s.ins.length = j := by omega
    rw [List.getElem?_append_left hj, List.getElem?_append_left hj]
    simp [this]
  · rw [List.getElem?_append_right (by omega), List.getElem?_append_right (by omega)]
    by_cases e : j = s.ins.length
    · subst e; simp
    · have : ¬ s.ins.length = j := fun q => e q.symm
      have : j - s.ins.length ≠ 0 := by omega
      simp [*]

/-- the instructions of a tree, the first at a place -/
def treeI : Ex → Nat → List I5
  | .attr _ n, _ => [⟨2, n, zeroV⟩]
  | .lett _ n, _ => [⟨3, n, zeroV⟩]
  | .un _ op k, a => treeI k a ++ [⟨op - 3, 0, zeroV⟩]
  | .bin _ op l r, a =>
    let x := (treeI l a).length
    if op = 25 then
      let y := (treeI r (a + x + 1)).length
      treeI l a ++ [⟨23, (a + x + y + 2 : Nat), zeroV⟩] ++ treeI r (a + x + 1) ++ [⟨22, (a + x + y + 3 : Nat), zeroV⟩] ++ [⟨1, 0, ⟨1, 0, ⟨#[]⟩, []⟩⟩]
    else if op = 26 then
      let y := (treeI r (a + x + 3)).length
      treeI l a ++ [⟨23, (a + x + 3 : Nat), zeroV⟩] ++ [⟨1, 0, ⟨1, 1, ⟨#[]⟩, []⟩⟩] ++ [⟨22, (a + x + 3 + y : Nat), zeroV⟩] ++ treeI r (a + x + 3)
    else treeI l a ++ treeI r (a + x) ++ [⟨op - 3, 0, zeroV⟩]
  | .ite _ c t e, a =>
    let x := (treeI c a).length
    let y := (treeI t (a + x + 1)).length
    let z := (treeI e (a + x + y + 2)).length
    treeI c a ++ [⟨23, (a + x + y + 2 : Nat), zeroV⟩] ++ treeI t (a + x + 1) ++ [⟨22, (a + x + y + 2 + z : Nat), zeroV⟩] ++ treeI e (a + x + y + 2)
  | e, _ => [⟨1, 0, exV e⟩]

/-- how many they are -/
def sizeI : Ex → Nat
  | .un _ _ k => 1 + sizeI k
  | .bin _ op l r => if op = 25 ∨ op = 26 then 1 + sizeI l + sizeI r + 2 else 1 + sizeI l + sizeI r
  | .ite _ c t e => 1 + sizeI c + sizeI t + sizeI e + 1
  | _ => 1

theorem treeI_len : ∀ (e : Ex) (a : Nat), (treeI e a).length = sizeI e
  | .int .., _ => rfl
  | .text .., _ => rfl
  | .bool .., _ => rfl
  | .set .., _ => rfl
  | .name .., _ => rfl
  | .attr .., _ => rfl
  | .lett .., _ => rfl
  | .un _ op k, a => by simp only [treeI, sizeI, List.length_append, treeI_len k, List.length_cons, List.length_nil]; omega
  | .bin _ op l r, a => by
    simp only [treeI, sizeI]
    by_cases h1 : op = 25
    · rw [if_pos h1, if_pos (.inl h1)]; simp only [List.length_append, treeI_len l, treeI_len r, List.length_cons, List.length_nil]; omega
    rw [if_neg h1]
    by_cases h2 : op = 26
    · rw [if_pos h2, if_pos (.inr h2)]; simp only [List.length_append, treeI_len l, treeI_len r, List.length_cons, List.length_nil]; omega
    rw [if_neg h2, if_neg (by omega)]
    simp only [List.length_append, treeI_len l, treeI_len r, List.length_cons, List.length_nil]; omega
  | .ite _ c t e, a => by simp only [treeI, sizeI, List.length_append, treeI_len c, treeI_len t, treeI_len e, List.length_cons, List.length_nil]; omega

/-- a choice, with its jumps written over -/
noncomputable def choiceP (fc ft fe : Cs → Cs) (s : Cs) : Cs :=
  let s1 := fc s
  let s2 := putI s1 ⟨23, 0, zeroV⟩
  let s3 := ft s2
  let s4 := putI s3 ⟨22, 0, zeroV⟩
  let s5 := patchI s4 s1.ins.length s4.ins.length
  let s6 := fe s5
  patchI s6 s3.ins.length s6.ins.length

noncomputable def constP (v : Vl) (s : Cs) : Cs := putI s ⟨1, 0, v⟩

/-- what the program's compiler does with a tree -/
noncomputable def cpE : Ex → Cs → Cs
  | .attr _ n, s => putI s ⟨2, n, zeroV⟩
  | .lett _ n, s => putI s ⟨3, n, zeroV⟩
  | .un _ op k, s => putI (cpE k s) ⟨op - 3, 0, zeroV⟩
  | .bin _ op l r, s => if op = 25 then choiceP (cpE l) (cpE r) (constP ⟨1, 0, ⟨#[]⟩, []⟩) s else if op = 26 then choiceP (cpE l) (constP ⟨1, 1, ⟨#[]⟩, []⟩) (cpE r) s else putI (cpE r (cpE l s)) ⟨op - 3, 0, zeroV⟩
  | .ite _ c t e, s => choiceP (cpE c) (cpE t) (cpE e) s
  | e, s => constP (exV e) s

/-- a choice says what the instructions do, with jumps as they are in the end -/
theorem choiceP_eq {fc ft fe : Cs → Cs} {C T E : List I5} (s : Cs) (hc : fc s = linkI s C) (ht : ∀ s', s'.ins.length = s.ins.length + C.length + 1 → ft s' = linkI s' T) (he : ∀ s', s'.ins.length = s.ins.length + C.length + T.length + 2 → fe s' = linkI s' E) :
    choiceP fc ft fe s = linkI s (C ++ [⟨23, (s.ins.length + C.length + T.length + 2 : Nat), zeroV⟩] ++ T ++ [⟨22, (s.ins.length + C.length + T.length + 2 + E.length : Nat), zeroV⟩] ++ E) := by
  unfold choiceP
  have l1 : (fc s).ins.length = s.ins.length + C.length := by rw [hc, linkI_len]
  have l2 : (putI (fc s) ⟨23, 0, zeroV⟩).ins.length = s.ins.length + C.length + 1 := by rw [putI_len, l1]
  have e3 := ht _ l2
  have l3 : (ft (putI (fc s) ⟨23, 0, zeroV⟩)).ins.length = s.ins.length + C.length + 1 + T.length := by rw [e3, linkI_len, l2]
  have l4 : (putI (ft (putI (fc s) ⟨23, 0, zeroV⟩)) ⟨22, 0, zeroV⟩).ins.length = s.ins.length + C.length + T.length + 2 := by rw [putI_len, l3]; omega
  have e5 : patchI (putI (ft (putI (fc s) ⟨23, 0, zeroV⟩)) ⟨22, 0, zeroV⟩) (fc s).ins.length (s.ins.length + C.length + T.length + 2 : Nat) = putI (linkI (putI (fc s) ⟨23, (s.ins.length + C.length + T.length + 2 : Nat), zeroV⟩) T) ⟨22, 0, zeroV⟩ := by
    rw [e3, ← putI_patch _ _ _ _ (by rw [linkI_len, l2]; omega), ← linkI_patch _ _ _ _ (by rw [l2]; omega), jump_patch _ _ _ (by decide)]
  have l5 : (putI (linkI (putI (fc s) ⟨23, (s.ins.length + C.length + T.length + 2 : Nat), zeroV⟩) T) ⟨22, 0, zeroV⟩).ins.length = s.ins.length + C.length + T.length + 2 := by
    rw [putI_len, linkI_len, putI_len, l1]; omega
  simp only [l4]
  rw [e5, he _ l5, l3]
  have l6 : (linkI (putI (linkI (putI (fc s) ⟨23, (s.ins.length + C.length + T.length + 2 : Nat), zeroV⟩) T) ⟨22, 0, zeroV⟩) E).ins.length = s.ins.length + C.length + T.length + 2 + E.length := by rw [linkI_len, l5]
  rw [l6, ← linkI_patch _ _ _ _ (by rw [l5]; omega)]
  have l7 : s.ins.length + C.length + 1 + T.length = (linkI (putI (fc s) ⟨23, (s.ins.length + C.length + T.length + 2 : Nat), zeroV⟩) T).ins.length := by rw [linkI_len, putI_len, l1]
  rw [l7, jump_patch _ _ _ (by decide), hc]
  simp only [linkI_app, linkI_one]

theorem cpE_eq : ∀ (e : Ex) (s : Cs), cpE e s = linkI s (treeI e s.ins.length)
  | .int .., s => rfl
  | .text .., s => rfl
  | .bool .., s => rfl
  | .set .., s => rfl
  | .name .., s => rfl
  | .attr .., s => rfl
  | .lett .., s => rfl
  | .un _ op k, s => by rw [cpE, treeI, cpE_eq k, linkI_app, linkI_one]
  | .bin _ op l r, s => by
    rw [cpE, treeI]
    by_cases h1 : op = 25
    · rw [if_pos h1, if_pos h1, choiceP_eq (fc := cpE l) (ft := cpE r) (fe := constP ⟨1, 0, ⟨#[]⟩, []⟩) (C := treeI l s.ins.length) (T := treeI r (s.ins.length + (treeI l s.ins.length).length + 1)) (E := [⟨1, 0, ⟨1, 0, ⟨#[]⟩, []⟩⟩]) s (cpE_eq l s) (fun s' h => by rw [cpE_eq r s', h]) (fun s' h => rfl)]
      rfl
    rw [if_neg h1, if_neg h1]
    by_cases h2 : op = 26
    · rw [if_pos h2, if_pos h2, choiceP_eq (fc := cpE l) (ft := constP ⟨1, 1, ⟨#[]⟩, []⟩) (fe := cpE r) (C := treeI l s.ins.length) (T := [⟨1, 0, ⟨1, 1, ⟨#[]⟩, []⟩⟩]) (E := treeI r (s.ins.length + (treeI l s.ins.length).length + 3)) s (cpE_eq l s) (fun s' h => rfl) (fun s' h => by rw [cpE_eq r s', h]; rfl)]
      rfl
    rw [if_neg h2, if_neg h2, cpE_eq l, cpE_eq r, linkI_len, linkI_app, linkI_app, linkI_one]
  | .ite _ c t e, s => by
    rw [cpE, treeI, choiceP_eq (fc := cpE c) (ft := cpE t) (fe := cpE e) (C := treeI c s.ins.length) (T := treeI t (s.ins.length + (treeI c s.ins.length).length + 1)) (E := treeI e (s.ins.length + (treeI c s.ins.length).length + (treeI t (s.ins.length + (treeI c s.ins.length).length + 1)).length + 2)) s (cpE_eq c s) (fun s' h => by rw [cpE_eq t s', h]) (fun s' h => by rw [cpE_eq e s', h])]

end Go.Proofs.YtpbopjgmiaoomaaGreatDoor

namespace Go.Proofs.YtpbopjgmiaoomaaGreatDoor
open Go.RowKit
set_option linter.unusedVariables false

/-- other slots -/
def Cs.withS (s : Cs) (k : Nat) : Cs := ⟨s.pool, k, s.ins⟩

theorem putI_withS (s : Cs) (k : Nat) (i : I5) : putI (s.withS k) i = (putI s i).withS k := by
  unfold putI Cs.withS; split <;> rfl

theorem linkI_withS : ∀ (L : List I5) (s : Cs) (k : Nat), linkI (s.withS k) L = (linkI s L).withS k
  | [], s, k => rfl
  | i :: L, s, k => by
    show linkI (putI (s.withS k) i) L = (linkI (putI s i) L).withS k
    rw [putI_withS, linkI_withS L]

theorem putI_slots (s : Cs) (i : I5) : (putI s i).slots = s.slots := by unfold putI; split <;> rfl

theorem linkI_slots : ∀ (L : List I5) (s : Cs), (linkI s L).slots = s.slots
  | [], s => rfl
  | i :: L, s => by
    show (linkI (putI s i) L).slots = _
    rw [linkI_slots L, putI_slots]

/-- the tree of a node -/
def exAt (Es : List Ex) (c : Int) : Ex := Es.getD c.toNat (.int 0 0)

/-- a decision, by the program -/
noncomputable def cpD (Es : List Ex) (g : Int) (s : Cs) : Cs := if g = -1 then putI s ⟨24, 0, zeroV⟩ else putI (cpE (exAt Es g) s) ⟨25, 0, zeroV⟩

/-- a statement, by the program -/
noncomputable def cpS (Es : List Ex) (s : Cs) (t : St) : Cs :=
  if t.kind = 1 then (putI (cpE (exAt Es t.cond) s) ⟨4, (s.slots : Int), zeroV⟩).withS (s.slots + 1)
  else if t.kind = 2 then
    let s1 := cpE (exAt Es t.cond) s
    let s3 := cpD Es t.grant (putI s1 ⟨23, 0, zeroV⟩)
    patchI s3 s1.ins.length s3.ins.length
  else cpD Es t.grant s

/-- a decision's instructions -/
def decI5 (Es : List Ex) (g : Int) (a : Nat) : List I5 := if g = -1 then [⟨24, 0, zeroV⟩] else treeI (exAt Es g) a ++ [⟨25, 0, zeroV⟩]

/-- a statement's instructions -/
def stI5 (Es : List Ex) (k a : Nat) (t : St) : List I5 :=
  if t.kind = 1 then treeI (exAt Es t.cond) a ++ [⟨4, (k : Int), zeroV⟩]
  else if t.kind = 2 then
    let x := (treeI (exAt Es t.cond) a).length
    treeI (exAt Es t.cond) a ++ [⟨23, (a + x + 1 + (decI5 Es t.grant (a + x + 1)).length : Nat), zeroV⟩] ++ decI5 Es t.grant (a + x + 1)
  else decI5 Es t.grant a

def letN (t : St) : Nat := if t.kind = 1 then 1 else 0

theorem cpD_eq (Es : List Ex) (g : Int) (s : Cs) : cpD Es g s = linkI s (decI5 Es g s.ins.length) := by
  unfold cpD decI5
  split
  · rfl
  · rw [cpE_eq, linkI_app, linkI_one]

theorem cpS_eq (Es : List Ex) (s : Cs) (t : St) : cpS Es s t = (linkI s (stI5 Es s.slots s.ins.length t)).withS (s.slots + letN t) := by
  unfold cpS stI5 letN
  by_cases h1 : t.kind = 1
  · rw [if_pos h1, if_pos h1, if_pos h1, cpE_eq, linkI_app, linkI_one]
  rw [if_neg h1, if_neg h1, if_neg h1]
  have id : ∀ X : Cs, X.slots = s.slots → X.withS (s.slots + 0) = X := fun X h => by cases X; simp only [Cs.withS, Cs.mk.injEq, true_and] at h ⊢; exact ⟨by omega, trivial⟩
  by_cases h2 : t.kind = 2
  · rw [if_pos h2, if_pos h2, id _ (linkI_slots _ _)]
    have l1 : (cpE (exAt Es t.cond) s).ins.length = s.ins.length + (treeI (exAt Es t.cond) s.ins.length).length := by rw [cpE_eq, linkI_len]
    have l2 : (putI (cpE (exAt Es t.cond) s) ⟨23, 0, zeroV⟩).ins.length = s.ins.length + (treeI (exAt Es t.cond) s.ins.length).length + 1 := by rw [putI_len, l1]
    simp only [cpD_eq, l2, linkI_len]
    rw [← linkI_patch _ _ _ _ (by rw [l2]; omega), jump_patch _ _ _ (by decide), cpE_eq]
    simp only [linkI_app, linkI_one]
  · rw [if_neg h2, if_neg h2, id _ (linkI_slots _ _), cpD_eq]

/-- all statements, by the program -/
noncomputable def cpAll (Es : List Ex) (s : Cs) (L : List St) : Cs := L.foldl (cpS Es) s

/-- all instructions, by the model -/
def allI5 (Es : List Ex) : Nat → Nat → List St → List I5
  | _, _, [] => []
  | k, a, t :: L => stI5 Es k a t ++ allI5 Es (k + letN t) (a + (stI5 Es k a t).length) L

def letsN (L : List St) : Nat := (L.map letN).sum

theorem cpAll_eq (Es : List Ex) : ∀ (L : List St) (s : Cs), cpAll Es s L = (linkI s (allI5 Es s.slots s.ins.length L)).withS (s.slots + letsN L)
  | [], s => rfl
  | t :: L, s => by
    show cpAll Es (cpS Es s t) L = _
    rw [cpAll_eq Es L (cpS Es s t), cpS_eq]
    have l1 : ((linkI s (stI5 Es s.slots s.ins.length t)).withS (s.slots + letN t)).ins.length = s.ins.length + (stI5 Es s.slots s.ins.length t).length := linkI_len _ _
    rw [l1, linkI_withS, allI5, linkI_app]
    simp only [Cs.withS, letsN, List.map_cons, List.sum_cons, Nat.add_assoc]

/-- what both sides write -/
noncomputable def codeC (Es : List Ex) (L : List St) : Cs := cpAll Es ⟨[], 0, []⟩ L

theorem codeC_eq (Es : List Ex) (L : List St) : codeC Es L = (linkI ⟨[], 0, []⟩ (allI5 Es 0 0 L)).withS (letsN L) := by
  rw [codeC, cpAll_eq]
  show Cs.withS _ (0 + letsN L) = _
  rw [Nat.zero_add]
  rfl

end Go.Proofs.YtpbopjgmiaoomaaGreatDoor

namespace Go.Proofs.YtpbopjgmiaoomaaGreatDoor
open Go.RowKit
set_option linter.unusedVariables false

theorem kidsF_len {f : Int → List Int → List Int} {M : Nat} (hf : ∀ k O, (f k O).length ≤ max O.length M + 1) (top : Int) : ∀ (ks O : List Int), (kidsF f top ks O).length ≤ max O.length M + ks.length + 1
  | [], O => by rw [kidsF, List.length_append, List.length_singleton, List.length_nil]; omega
  | k :: ks, O => by
    rw [kidsF]
    split
    · rw [List.length_append, List.length_singleton, List.length_cons]; omega
    · have h1 := kidsF_len hf top ks (f k O)
      have h2 := hf k O
      rw [List.length_cons]; omega

theorem walkF_len {K : List (List Int)} (h3 : ∀ ks ∈ K, ks.length ≤ 3) : ∀ (n : Nat) (top : Int) (O : List Int), (walkF K n top O).length ≤ max O.length (K.length + 3 * n) + 1
  | 0, top, O => by rw [walkF, List.length_append, List.length_singleton]; omega
  | n + 1, top, O => by
    rw [walkF]
    dsimp only
    split
    · rw [List.length_append, List.length_singleton]; omega
    · rename_i hc
      have h1 := kidsF_len (M := K.length + 3 * n) (walkF_len h3 n) top (K.getD top.toNat []) O
      have h2 : (K.getD top.toNat []).length ≤ 3 := by
        rw [List.getD_eq_getElem?_getD]
        cases e : K[top.toNat]? with
        | none => simp
        | some ks => exact h3 ks (List.mem_of_getElem? e)
      omega

/-- all that was is as it was, but for the row; the row lies where it lay, or in a new block -/
def Keep (w : World) (v : Value) (w' : World) (v' : Value) : Prop := (∀ k, k < w.heap.size → some k ≠ v.ownBlock → w'.heap[k]? = w.heap[k]?) ∧ (∀ q, v'.ownBlock = some q → v.ownBlock = some q ∨ w.heap.size ≤ q) ∧ w.heap.size ≤ w'.heap.size

theorem Keep.refl (w : World) (v : Value) : Keep w v w v := ⟨fun _ _ _ => rfl, fun q h => .inl h, Nat.le_refl _⟩

theorem Keep.trans {w w1 w2 : World} {v v1 v2 : Value} (h : Keep w v w1 v1) (k : Keep w1 v1 w2 v2) : Keep w v w2 v2 :=
  ⟨fun j hj hne => (k.1 j (Nat.lt_of_lt_of_le hj h.2.2) (fun e => by
    rcases h.2.1 j e.symm with e' | e'
    · exact hne e'.symm
    · omega)).trans (h.1 j hj hne), fun q hq => by
    rcases k.2.1 q hq with e | e
    · exact h.2.1 q e
    · exact .inr (Nat.le_trans h.2.2 e), Nat.le_trans h.2.2 k.2.2⟩

theorem keep_append {w w' : World} {o : Obj} {v : Value} {g n c : Nat} (hg : (w.alloc o).grownBy w' v.ownBlock) (ha : v.ownBlock = some g ∨ g = w.heap.size + 1) : Keep w v w' (.slice (some ⟨g, 0, none⟩) n c) :=
  ⟨fun k hk hne => (hg.block k (by simp; omega) hne).trans (Below.heap_alloc w o k hk), fun q hq => by
    have : g = q := by simpa [Value.ownBlock] using hq
    subst this
    rcases ha with e | e
    · exact .inl e
    · right; omega, by have := hg.size; simp at this; omega⟩

theorem Row.keep {w w' : World} {v v' : Value} {b : Nat} {cs : Array Value} {t : TypeId} (R : Row w b cs t) (h : Keep w v w' v') (hne : v.ownBlock ≠ some b) : Row w' b cs t := ⟨(h.1 b R.lt (fun e => hne e.symm)).trans R.out⟩

def WalkAns (B : Nat) (w : World) (v : Value) (R : List Int) (e : Ending) (w' : World) : Prop := ∃ v', e = .returned v' ∧ w'.ownsRow B 3 1 v' R.length (intsV R) ∧ Below B w w' ∧ Keep w v w' v'

theorem owns_snoc {w : World} {B : Nat} {v : Value} {O : List Int} {x : Int} (h : w.ownsRow B 3 1 v (O.length + 1) (intsV O ++ [.int .i64 x])) : w.ownsRow B 3 1 v (O ++ [x]).length (intsV (O ++ [x])) := by
  rw [List.length_append, List.length_singleton, intsV, List.map_append]
  exact h

theorem walk_unfit {K : List (List Int)} {n : Nat} {top : Int} {O : List Int} (h : top < 0 ∨ (K.length : Int) ≤ top ∨ K.length < O.length) : ∀ fuel, walkF K fuel top O = O ++ [-1]
  | 0 => rfl
  | n + 1 => by rw [walkF]; exact if_pos h

set_option maxRecDepth 100000 in
set_option maxHeartbeats 6400000 in
theorem l2walk_unfit (a : Option Addr) (n c : Nat) (B : Nat) (top : Int) (O : List Int) (v : Value) (w : World) (hn : n ≤ 4000) (h : top < 0 ∨ (n : Int) ≤ top ∨ n < O.length) (hO : O.length ≤ 100000) (hBw : B ≤ w.heap.size) (O1 : w.ownsRow B 3 1 v O.length (intsV O)) :
    Calls Tryz.prog 71 #[.slice a n c, .int .i64 top, v] w fun e w' => WalkAns B w v (O ++ [-1]) e w' := by
  obtain ⟨i, hi, hz0, hz1, hz2⟩ := info_parts infoI
  obtain ⟨xv, cv, rfl, _⟩ := owns_form2 O1
  rcases (show top < 0 ∨ (0 ≤ top ∧ (n : Int) ≤ top) ∨ (0 ≤ top ∧ top < n ∧ n < O.length) by omega) with h1 | ⟨h0, h2⟩ | ⟨h0, h2, h3⟩
  · have i1 : top < 0 := h1
    go_enter Tryz.func71, Tryz.ntmps71
    go_wp2_with (at_builtin; refine wpList_append_lies _ rfl _ _ 24 rfl B 3 i (.int .i64 0) 1 8 Tryz.underlying24 hi hz0 hz1 hz2 rfl (by decide) _ _ _ rfl (World.ownsRow.alloc O1 _) ⟨w.heap.size, 0, none⟩ 1 1 [.int .i64 (-1)] rfl rfl ?a1 ?a2 (by decide) ?a3 ?a4 ?a5 _ rfl ?_)
    first | (case a1 => exact one_cell _ _ _ _ (by simp)) | skip
    case a2 => first | (intro u hu; simp at hu; subst hu; rfl) | rfl
    case a3 => unfold maxLen; omega
    case a4 => omega
    case a5 => first | (simp; omega) | omega
    intro g cap w3 O3 hgrow hat hgl
    have KP := keep_append (n := O.length + 1) (c := cap) hgrow hat
    have B3 := ((Below.refl B w).alloc hBw (.cells #[.int .i64 (-1)] 3)).grown hgrow (by simp; omega) (fun q hq => (O1.lt q hq).1)
    have O4 := owns_snoc O3
    clear hgrow hat O3
    go_wp2_with fail
    go_ret
    exact ⟨_, rfl, O4, B3, KP⟩
  · have i1 : ¬ top < 0 := by omega
    have i2 : (n : Int) ≤ top := h2
    go_enter Tryz.func71, Tryz.ntmps71
    go_wp2_with (at_builtin; refine wpList_append_lies _ rfl _ _ 24 rfl B 3 i (.int .i64 0) 1 8 Tryz.underlying24 hi hz0 hz1 hz2 rfl (by decide) _ _ _ rfl (World.ownsRow.alloc O1 _) ⟨w.heap.size, 0, none⟩ 1 1 [.int .i64 (-1)] rfl rfl ?b1 ?b2 (by decide) ?b3 ?b4 ?b5 _ rfl ?_)
    first | (case b1 => exact one_cell _ _ _ _ (by simp)) | skip
    case b2 => first | (intro u hu; simp at hu; subst hu; rfl) | rfl
    case b3 => unfold maxLen; omega
    case b4 => omega
    case b5 => first | (simp; omega) | omega
    intro g cap w3 O3 hgrow hat hgl
    have KP := keep_append (n := O.length + 1) (c := cap) hgrow hat
    have B3 := ((Below.refl B w).alloc hBw (.cells #[.int .i64 (-1)] 3)).grown hgrow (by simp; omega) (fun q hq => (O1.lt q hq).1)
    have O4 := owns_snoc O3
    clear hgrow hat O3
    go_wp2_with fail
    go_ret
    exact ⟨_, rfl, O4, B3, KP⟩
  · have i1 : ¬ top < 0 := by omega
    have i2 : ¬ ((n : Int) ≤ top) := by omega
    have i3 : (n : Int) < (O.length : Int) := by omega
    go_enter Tryz.func71, Tryz.ntmps71
    go_wp2_with (at_builtin; refine wpList_append_lies _ rfl _ _ 24 rfl B 3 i (.int .i64 0) 1 8 Tryz.underlying24 hi hz0 hz1 hz2 rfl (by decide) _ _ _ rfl (World.ownsRow.alloc O1 _) ⟨w.heap.size, 0, none⟩ 1 1 [.int .i64 (-1)] rfl rfl ?c1 ?c2 (by decide) ?c3 ?c4 ?c5 _ rfl ?_)
    first | (case c1 => exact one_cell _ _ _ _ (by simp)) | skip
    case c2 => first | (intro u hu; simp at hu; subst hu; rfl) | rfl
    case c3 => unfold maxLen; omega
    case c4 => omega
    case c5 => first | (simp; omega) | omega
    intro g cap w3 O3 hgrow hat hgl
    have KP := keep_append (n := O.length + 1) (c := cap) hgrow hat
    have B3 := ((Below.refl B w).alloc hBw (.cells #[.int .i64 (-1)] 3)).grown hgrow (by simp; omega) (fun q hq => (O1.lt q hq).1)
    have O4 := owns_snoc O3
    clear hgrow hat O3
    go_wp2_with fail
    go_ret
    exact ⟨_, rfl, O4, B3, KP⟩

theorem kidsF_drop {f : Int → List Int → List Int} {top : Int} {ks : List Int} {j : Nat} (hj : j < ks.length) (O : List Int) : kidsF f top (ks.drop j) O = if top ≤ ks[j] then O ++ [-1] else kidsF f top (ks.drop (j + 1)) (f ks[j] O) := by
  rw [List.drop_eq_getElem_cons hj, kidsF]

set_option maxRecDepth 100000 in
set_option maxHeartbeats 6400000 in
theorem l2walk_any (a : Option Addr) (n c : Nat) (N : List Nd) (w0 : World) (B : Nat) (hN : Nds w0 a n c N) (hB : w0.heap.size ≤ B) (hn : n ≤ 4000) (h3 : ∀ ks ∈ N.map Nd.kids, ks.length ≤ 3) :
    ∀ (fuel : Nat) (top : Int) (O : List Int) (v : Value) (w : World), fuel ≤ 4000 → (N.length ≤ fuel ∨ top < fuel) → O.length ≤ 100000 → Below w0.heap.size w0 w → B ≤ w.heap.size → w.ownsRow B 3 1 v O.length (intsV O) →
    Calls Tryz.prog 71 #[.slice a n c, .int .i64 top, v] w fun e w' => WalkAns B w v (walkF (N.map Nd.kids) fuel top O) e w' := by
  have HL := hide hN.len
  have HK := hide (show (N.map Nd.kids).length = n by rw [List.length_map, hN.len])
  have H3 := hide h3
  obtain ⟨i, hi, hz0, hz1, hz2⟩ := info_parts infoI
  intro fuel
  induction fuel with
  | zero =>
    intro top O v w _ hf hO hb hBw O1
    have hl := unhide HL
    rw [walk_unfit (K := N.map Nd.kids) (n := n) (by rw [List.length_map]; omega) 0]
    exact l2walk_unfit a n c B top O v w hn (by omega) hO hBw O1
  | succ fuel ih =>
    intro top O v w hfl hf hO hb hBw O1
    by_cases hu : top < 0 ∨ (n : Int) ≤ top ∨ n < O.length
    · rw [walk_unfit (K := N.map Nd.kids) (n := n) (by rw [unhide HK]; exact hu) (fuel + 1)]
      exact l2walk_unfit a n c B top O v w hn hu hO hBw O1
    · obtain ⟨t, rfl⟩ : ∃ t : Nat, top = (t : Int) := ⟨top.toNat, by omega⟩
      have htn : t < n := by omega
      have hOn : O.length ≤ n := by omega
      have htl : t < N.length := by rw [unhide HL]; exact htn
      have i1 : ¬ ((t : Int) < 0) := by omega
      have i2 : ¬ ((n : Int) ≤ (t : Int)) := by omega
      have i2' : (t : Int) < (n : Int) := by omega
      have i3 : ¬ ((n : Int) < (O.length : Int)) := by omega
      have hft : t ≤ fuel := by have := unhide HL; omega
      have HW := hide (show walkF (N.map Nd.kids) (fuel + 1) (t : Int) O = kidsF (walkF (N.map Nd.kids) fuel) (t : Int) (N[t].kids) O by
        rw [walkF]
        dsimp only
        rw [if_neg (by rw [unhide HK]; exact hu), Int.toNat_natCast, List.getD_eq_getElem?_getD, List.getElem?_map, List.getElem?_eq_getElem htl]
        rfl)
      have hk3 : N[t].kids.length ≤ 3 := unhide H3 _ (List.mem_map_of_mem (List.getElem_mem htl))
      rw [unhide HW]
      clear HW hu
      obtain ⟨b, off, rfl, hbl, an, nn, cn, ak, nk, ck, c0, c1, c2, c3, c4, hNm, hKd⟩ := hN.cells t htl
      have c4 := (hb.cell (p := ⟨b, off + t * 5 + 4, none⟩) hbl).trans c4
      have HWL := hide (fun k O => walkF_len (K := N.map Nd.kids) (unhide H3) fuel k O)
      rw [unhide HK] at HWL
      generalize N[t] = x at c0 c1 c2 c3 c4 hNm hKd hk3 ⊢
      generalize walkF (N.map Nd.kids) fuel = F at ih HWL ⊢
      have HKL := hide hKd.len
      have hnk : nk ≤ 3 := by rw [← hKd.len]; exact hk3
      obtain ⟨xv, cv, rfl, _⟩ := owns_form2 O1
      have HRR := hide (show kidsF F (t : Int) (x.kids.drop 0) O = kidsF F (t : Int) x.kids O by rw [List.drop_zero])
      generalize kidsF F (t : Int) x.kids O = R at HRR ⊢
      clear c0 c1 c2 c3 hk3
      go_enter Tryz.func71, Tryz.ntmps71
      go_wp2_with fail
      go_loopw [2, 33] (fun u i wr => ∃ (j : Nat) (O' : List Int), j ≤ nk ∧ i = .int .i64 j ∧ Hid (kidsF F (t : Int) (x.kids.drop j) O' = R) ∧ O'.length ≤ n + 3 * fuel + j ∧ wr.ownsRow B 3 1 u O'.length (intsV O') ∧ Below B w wr ∧ Keep w (.slice xv O.length cv) wr u) (fun _ i _ => nk - (intOf i).toNat)
      case atStart => exact ⟨0, O, by omega, rfl, HRR, by omega, O1, Below.refl _ _, Keep.refl _ _⟩
      case round =>
        obtain ⟨j, O', hj, rfl, HJ, hOl, P1, E1, KE⟩ := hrel
        obtain ⟨xu, cu, rfl, _⟩ := owns_form2 P1
        have E1s := Nat.le_trans hBw E1.size
        have E0 := hb.trans (E1.mono hB)
        by_cases hjl : j < nk
        · have ijl : (j : Int) < (nk : Int) := by omega
          have hjk : j < x.kids.length := by rw [unhide HKL]; exact hjl
          obtain ⟨bk, ok, rfl, hbk, ck0⟩ := (hKd.below E0 (Nat.le_refl _)).cells j hjk
          have HD := hide (kidsF_drop (f := F) (top := (t : Int)) hjk O')
          rw [unhide HJ] at HD
          have Hjl := hide hjl
          generalize x.kids[j] = y at ck0 HD
          by_cases hy : (t : Int) ≤ y
          · have HX := hide (show R = O' ++ [-1] by rw [unhide HD, if_pos hy])
            go_wp2_with (at_builtin; refine wpList_append_lies _ rfl _ _ 24 rfl B 3 i (.int .i64 0) 1 8 Tryz.underlying24 hi hz0 hz1 hz2 rfl (by decide) _ _ _ rfl (World.ownsRow.alloc P1 _) ⟨wr.heap.size, 0, none⟩ 1 1 [.int .i64 (-1)] rfl rfl ?d1 ?d2 (by decide) ?d3 ?d4 ?d5 _ rfl ?_)
            first | (case d1 => exact one_cell _ _ _ _ (by simp)) | skip
            case d2 => first | (intro u hu; simp at hu; subst hu; rfl) | rfl
            case d3 => unfold maxLen; omega
            case d4 => omega
            case d5 => first | (simp; omega) | omega
            intro g cap w3 O3 hgrow hat hgl
            have KP := keep_append (n := O'.length + 1) (c := cap) hgrow hat
            have B3 := (E1.alloc E1s (.cells #[.int .i64 (-1)] 3)).grown hgrow (by simp; omega) (fun q hq => (P1.lt q hq).1)
            have O4 := owns_snoc O3
            clear hgrow hat O3
            go_wp2_with fail
            go_ret
            exact ⟨_, rfl, by rw [unhide HX]; exact O4, B3, KE.trans KP⟩
          · have HX := hide (show kidsF F (t : Int) (x.kids.drop (j + 1)) (F y O') = R by rw [unhide HD, if_neg hy])
            have hwl := unhide HWL y O'
            clear HD
            go_wp2_with (go_at_call 71; refine (ih y O' _ wr (by omega) (by omega) (by omega) E0 E1s P1).mono ?_; rintro e w2 ⟨v2, rfl, O2, hb2, K2⟩)
            go_roundw
            case rel => exact ⟨j + 1, F y O', unhide Hjl, by go_num, HX, by omega, O2, E1.trans hb2, KE.trans K2⟩
            case measure => have := unhide Hjl; simp [intOf]; omega
        · have e : j = nk := by omega
          subst e
          have HX := hide (show R = O' ++ [(t : Int)] by
            rw [← unhide HJ, List.drop_of_length_le (by rw [unhide HKL]; exact Nat.le_refl _), kidsF])
          go_wp2_with (at_builtin; refine wpList_append_lies _ rfl _ _ 24 rfl B 3 i (.int .i64 0) 1 8 Tryz.underlying24 hi hz0 hz1 hz2 rfl (by decide) _ _ _ rfl (World.ownsRow.alloc P1 _) ⟨wr.heap.size, 0, none⟩ 1 1 [.int .i64 (t : Int)] rfl rfl ?e1 ?e2 (by decide) ?e3 ?e4 ?e5 _ rfl ?_)
          first | (case e1 => exact one_cell _ _ _ _ (by simp)) | skip
          case e2 => first | (intro u hu; simp at hu; subst hu; rfl) | rfl
          case e3 => unfold maxLen; omega
          case e4 => omega
          case e5 => first | (simp; omega) | omega
          intro g cap w3 O3 hgrow hat hgl
          have KP := keep_append (n := O'.length + 1) (c := cap) hgrow hat
          have B3 := (E1.alloc E1s (.cells #[.int .i64 (t : Int)] 3)).grown hgrow (by simp; omega) (fun q hq => (P1.lt q hq).1)
          have O4 := owns_snoc O3
          clear hgrow hat O3
          go_wp2_with fail
          go_ret
          exact ⟨_, rfl, by rw [unhide HX]; exact O4, B3, KE.trans KP⟩

end Go.Proofs.YtpbopjgmiaoomaaGreatDoor

namespace Go.Proofs.YtpbopjgmiaoomaaGreatDoor
open Go.RowKit
set_option linter.unusedVariables false


theorem infoB : (Tryz.prog.info? 5).map (fun i => (i.zero, i.size, i.bytes)) = some (some (.int .u8 0), 1, 1) := by kernel_rfl

theorem wrap_u8_eq (y : Int) : IntKind.u8.wrap y = y % 256 := by simp [IntKind.wrap, IntKind.bits, IntKind.signed]

theorem bytes_form {w : World} {base e n : Nat} {v : Value} {xs : List Value} (h : w.ownsRow base e 1 v n xs) : ∃ x c, v = .slice x n c := owns_form h

theorem bytes_snoc {w : World} {B : Nat} {v : Value} {O : List Int} {x : Int} (h : w.ownsRow B 5 1 v (O.length + 1) (bytesV O ++ [.int .u8 x])) : w.ownsRow B 5 1 v (O ++ [x]).length (bytesV (O ++ [x])) := by
  rw [List.length_append, List.length_singleton, bytesV, List.map_append]
  exact h

theorem one_byte (w : World) (v : Value) (t : TypeId) (b : Nat) (hb : b = w.heap.size) : ∀ j u, ([v] : List Value)[j]? = some u → (w.alloc (.cells #[v] t)).cell? ((⟨b, 0, none⟩ : Addr).add j) = some u := fun j u h => by
  subst hb
  have hj : j = 0 := by
    have := (List.getElem?_eq_some_iff.1 h).1
    simp at this
    exact this
  subst hj
  rw [← h]
  simp [Addr.add]

end Go.Proofs.YtpbopjgmiaoomaaGreatDoor

namespace Go.Proofs.YtpbopjgmiaoomaaGreatDoor
open Go.RowKit

def byte1 (x : Int) : ByteArray := ByteArray.empty.push (UInt8.ofNat x.toNat)

theorem byte1_size (x : Int) : (byte1 x).size = 1 := rfl

theorem conv1 (W : World) (x : Int) : (convert 166 9 (.slice (some ⟨W.heap.size, 0, none⟩) 1 1)).run Tryz.prog (W.alloc (.cells #[.int .u8 x] 5)) = .ok (.string (byte1 x)) (W.alloc (.cells #[.int .u8 x] 5)) := by
  rw [run_convert_bytes_string _ _ _ _ _ _ _ Tryz.underlying166 Tryz.underlying5 Tryz.underlying9]
  rw [run_bytesToString _ _ _ _ [x]]
  · rfl
  · have h : (W.alloc (.cells #[.int .u8 x] 5)).cell? ⟨W.heap.size, 0, none⟩ = some (.int .u8 x) := by simp
    simp [loadCells, h, go_sem]

theorem size_app (a b : ByteArray) : (a ++ b).size = a.size + b.size := ByteArray.size_append

end Go.Proofs.YtpbopjgmiaoomaaGreatDoor

namespace Go.Proofs.YtpbopjgmiaoomaaGreatDoor
open Go.RowKit

/-- Outside the blocks lo .. hi - 1 nothing that was there has turned. -/
structure Touch (lo hi : Nat) (w w' : World) : Prop where
  os : w'.os = w.os
  tape : w'.tape = w.tape
  output : w'.output = w.output
  size : w.heap.size ≤ w'.heap.size
  block : ∀ k, k < w.heap.size → (k < lo ∨ hi ≤ k) → w'.heap[k]? = w.heap[k]?

theorem Touch.refl (lo hi : Nat) (w : World) : Touch lo hi w w := ⟨rfl, rfl, rfl, Nat.le_refl _, fun _ _ _ => rfl⟩

theorem Touch.trans {lo hi : Nat} {a b c : World} (h : Touch lo hi a b) (k : Touch lo hi b c) : Touch lo hi a c :=
  ⟨k.os.trans h.os, k.tape.trans h.tape, k.output.trans h.output, Nat.le_trans h.size k.size, fun i hi h' => (k.block i (Nat.lt_of_lt_of_le hi h.size) h').trans (h.block i hi h')⟩

theorem Touch.of_below {lo hi B : Nat} {w w' : World} (h : Below B w w') (hB : w.heap.size ≤ B) : Touch lo hi w w' :=
  ⟨h.os, h.tape, h.output, h.size, fun k hk _ => h.block k (by omega)⟩

theorem Touch.setCell {lo hi : Nat} (w : World) (p : Addr) (u : Value) (h1 : lo ≤ p.block) (h2 : p.block < hi) : Touch lo hi w (w.setCell p u) :=
  ⟨rfl, rfl, rfl, by simp, fun k _ hk => heap_setCell_other w p k u (by omega)⟩

/-- Below what was there: a step that touches the call's own blocks alone. -/
theorem below_touch {B lo hi : Nat} {w w1 w2 : World} (h : Below B w w1) (t : Touch lo hi w1 w2) (hB : B ≤ lo) (hs : B ≤ w1.heap.size) : Below B w w2 :=
  h.trans ⟨t.os, t.tape, t.output, t.size, fun k hk => t.block k (by omega) (.inl (by omega))⟩

/-- A slice of strings of the call's own, in the blocks lo .. hi - 1. -/
structure OwnS (w : World) (lo hi : Nat) (a : Option Addr) (n c : Nat) (ss : List ByteArray) : Prop where
  own : w.ownsRow lo 9 1 (.slice a n c) n (ss.map Value.string)
  lt : ∀ x, a = some x → x.block < hi
  sizes : ∀ j, j < n → (nth ss j).size ≤ maxLen
  top : hi ≤ w.heap.size

theorem OwnS.strs {w : World} {lo hi n c : Nat} {a : Option Addr} {ss : List ByteArray} (h : OwnS w lo hi a n c ss) : Strs w a n c ss := Strs.of_owns h.own h.sizes

theorem OwnS.of {w : World} {lo n c : Nat} {a : Option Addr} {ss : List ByteArray} (h : w.ownsRow lo 9 1 (.slice a n c) n (ss.map Value.string)) (hs : ∀ j, j < n → (nth ss j).size ≤ maxLen) : OwnS w lo w.heap.size a n c ss :=
  ⟨h, fun x hx => by subst hx; exact (h.lt _ rfl).2, hs, Nat.le_refl _⟩

theorem owns_of_block {w w' : World} {lo n c : Nat} {a : Option Addr} {xs : List Value} (h : w.ownsRow lo 9 1 (.slice a n c) n xs) (hb : ∀ x, a = some x → w'.heap[x.block]? = w.heap[x.block]?) : w'.ownsRow lo 9 1 (.slice a n c) n xs := by
  refine ⟨h.1, ?_⟩
  rcases h.2 with h2 | ⟨g, cap, cur, hv, h3, hg, h4⟩
  · exact .inl h2
  · refine .inr ⟨g, cap, cur, hv, h3, ?_, h4⟩
    simp only [Value.slice.injEq] at hv
    rw [← hg]
    exact hb ⟨g, 0, none⟩ hv.1

theorem OwnS.below {w w' : World} {lo hi n c B : Nat} {a : Option Addr} {ss : List ByteArray} (h : OwnS w lo hi a n c ss) (hb : Below B w w') (hB : hi ≤ B) : OwnS w' lo hi a n c ss :=
  ⟨owns_of_block h.own (fun x hx => hb.block _ (by have := h.lt x hx; omega)), h.lt, h.sizes, Nat.le_trans h.top hb.size⟩

theorem OwnS.touch {w w' : World} {lo hi n c lo' hi' : Nat} {a : Option Addr} {ss : List ByteArray} (h : OwnS w lo hi a n c ss) (t : Touch lo' hi' w w') (hd : hi ≤ lo' ∨ hi' ≤ lo) : OwnS w' lo hi a n c ss :=
  ⟨owns_of_block h.own (fun x hx => t.block _ (by have := h.lt x hx; have := h.top; omega) (by
    have h1 := h.lt x hx
    have h2 : lo ≤ x.block := by subst hx; exact (h.own.lt _ rfl).1
    omega)), h.lt, h.sizes, Nat.le_trans h.top t.size⟩

theorem Strs.touch {w w' : World} {lo hi n c B : Nat} {a : Option Addr} {ss : List ByteArray} (h : Strs w a n c ss) (t : Touch lo hi w w') (hB : ∀ x, a = some x → x.block < B) (hlo : B ≤ lo) : Strs w' a n c ss :=
  ⟨h.len, h.cap, h.small, h.sizes, fun j hj => by
    obtain ⟨b, off, ha, hlt, hc⟩ := h.cells j hj
    refine ⟨b, off, ha, Nat.lt_of_lt_of_le hlt t.size, ?_⟩
    rw [← hc]
    exact World.cell?_of_block (t.block b hlt (.inl (by have := hB _ ha; simp at this; omega)))⟩

end Go.Proofs.YtpbopjgmiaoomaaGreatDoor

namespace Go.Proofs.YtpbopjgmiaoomaaGreatDoor
open Go.RowKit
set_option linter.unusedVariables false

/-- but for some blocks nothing that was there is changed -/
structure Kpt (S : Nat → Prop) (w w' : World) : Prop where
  os : w'.os = w.os
  tape : w'.tape = w.tape
  output : w'.output = w.output
  size : w.heap.size ≤ w'.heap.size
  block : ∀ k, k < w.heap.size → ¬ S k → w'.heap[k]? = w.heap[k]?

theorem Kpt.of_below {S : Nat → Prop} {w w' : World} (h : Below w.heap.size w w') : Kpt S w w' := ⟨h.os, h.tape, h.output, h.size, fun k hk _ => h.block k hk⟩

theorem Kpt.refl (S : Nat → Prop) (w : World) : Kpt S w w := ⟨rfl, rfl, rfl, Nat.le_refl _, fun _ _ _ => rfl⟩

/-- the second may touch what came new in the first -/
theorem Kpt.trans {S T : Nat → Prop} {a b c : World} (h : Kpt S a b) (k : Kpt T b c) (hT : ∀ q, q < a.heap.size → T q → S q) : Kpt S a c :=
  ⟨k.os.trans h.os, k.tape.trans h.tape, k.output.trans h.output, Nat.le_trans h.size k.size, fun q hq hS => (k.block q (Nat.lt_of_lt_of_le hq h.size) (fun t => hS (hT q hq t))).trans (h.block q hq hS)⟩

theorem Kpt.setCell {S : Nat → Prop} {a b : World} (h : Kpt S a b) {p : Addr} (hp : p.block < a.heap.size → S p.block) (u : Value) : Kpt S a (b.setCell p u) :=
  ⟨h.os, h.tape, h.output, by simpa using h.size, fun q hq hS => (heap_setCell_other b p q u (fun e => hS (by subst e; exact hp hq))).trans (h.block q hq hS)⟩

theorem rowGrown {w w' : World} {b : Nat} {cs : Array Value} {t : TypeId} {row : Option Nat} (h : Row w b cs t) (g : w.grownBy w' row) (hr : some b ≠ row) : Row w' b cs t := ⟨(g.block b h.lt hr).trans h.out⟩

end Go.Proofs.YtpbopjgmiaoomaaGreatDoor

namespace Go.Proofs.YtpbopjgmiaoomaaGreatDoor
open Go.RowKit
set_option linter.unusedVariables false
/-- the writer: its header, and the bytes so far -/
structure Wr (w : World) (g : Nat) (h0 h1 h2 : Int) (v : Value) (O : List Int) : Prop where
  row : Row w g #[.int .i64 h0, .int .i64 h1, .int .i64 h2, v] 193
  own : w.ownsRow (g + 1) 5 1 v O.length (bytesV O)

/-- all that was is as it was, but for the writer and its row; the row lies where it lay, or in a new block -/
def WK (g : Nat) (w : World) (v : Value) (w' : World) (v' : Value) : Prop := (∀ k, k < w.heap.size → k ≠ g → some k ≠ v.ownBlock → w'.heap[k]? = w.heap[k]?) ∧ (∀ q, v'.ownBlock = some q → v.ownBlock = some q ∨ w.heap.size ≤ q) ∧ w.heap.size ≤ w'.heap.size

theorem WK.refl (g : Nat) (w : World) (v : Value) : WK g w v w v := ⟨fun _ _ _ _ => rfl, fun q h => .inl h, Nat.le_refl _⟩

theorem WK.trans {g : Nat} {w w1 w2 : World} {v v1 v2 : Value} (h : WK g w v w1 v1) (k : WK g w1 v1 w2 v2) : WK g w v w2 v2 :=
  ⟨fun j hj hg hne => (k.1 j (Nat.lt_of_lt_of_le hj h.2.2) hg (fun e => by
    rcases h.2.1 j e.symm with e' | e'
    · exact hne e'.symm
    · omega)).trans (h.1 j hj hg hne), fun q hq => by
    rcases k.2.1 q hq with e | e
    · exact h.2.1 q e
    · exact .inr (Nat.le_trans h.2.2 e), Nat.le_trans h.2.2 k.2.2⟩

theorem WK.alloc {g : Nat} {w w' : World} {v v' : Value} (h : WK g w v w' v') (o : Obj) : WK g w v (w'.alloc o) v' :=
  ⟨fun k hk hg hne => (Below.heap_alloc w' o k (Nat.lt_of_lt_of_le hk h.2.2)).trans (h.1 k hk hg hne), h.2.1, by simp; have := h.2.2; omega⟩

/-- a block beside the writer -/
theorem Row.wk {g : Nat} {w w' : World} {v v' : Value} {b : Nat} {cs : Array Value} {t : TypeId} (R : Row w b cs t) (h : WK g w v w' v') (hg : b ≠ g) (hne : v.ownBlock ≠ some b) : Row w' b cs t := ⟨(h.1 b R.lt hg (fun e => hne e.symm)).trans R.out⟩

theorem wk_append {g : Nat} {w w' : World} {o : Obj} {v : Value} {b n c : Nat} (hg : (w.alloc o).grownBy w' v.ownBlock) (ha : v.ownBlock = some b ∨ b = w.heap.size + 1) (u : Value) : WK g w v (w'.setCell ⟨g, 3, none⟩ u) (.slice (some ⟨b, 0, none⟩) n c) :=
  ⟨fun k hk hkg hne => (heap_setCell_other w' ⟨g, 3, none⟩ k u hkg).trans ((hg.block k (by simp; omega) hne).trans (Below.heap_alloc w o k hk)), fun q hq => by
    have : b = q := by simpa [Value.ownBlock] using hq
    subst this
    rcases ha with e | e
    · exact .inl e
    · right; omega, by have := hg.size; simp at this ⊢; omega⟩

/-- what a step of the writer leaves -/
def WrAns (w : World) (g : Nat) (h0 h1 h2 : Int) (v : Value) (R : List Int) (e : Ending) (w' : World) : Prop := e = .returned (.tuple #[]) ∧ ∃ v', Wr w' g h0 h1 h2 v' R ∧ WK g w v w' v' ∧ Below g w w'

theorem bytes_far {w : World} {g : Nat} {v u : Value} {n : Nat} {xs : List Value} (h : w.ownsRow (g + 1) 5 1 v n xs) : (w.setCell ⟨g, 3, none⟩ u).ownsRow (g + 1) 5 1 v n xs := by
  refine ⟨h.1, ?_⟩
  rcases h.2 with hn | ⟨q, cap, cur, hv, h1, h2, h3⟩
  · exact .inl hn
  · exact .inr ⟨q, cap, cur, hv, h1, (heap_setCell_other w ⟨g, 3, none⟩ q u (by show q ≠ g; omega)).trans h2, h3⟩

set_option maxRecDepth 100000 in
set_option maxHeartbeats 3200000 in
theorem number_any (g : Nat) (h0 h1 h2 : Int) (v : Value) (O : List Int) (num : Int) (width : Nat) (w : World) (hw : Wr w g h0 h1 h2 v O) (hwd : width ≤ 8) (hO : O.length ≤ 100000000) :
    Calls Tryz.prog 120 #[.pointer (some ⟨g, 0, none⟩), .int .i64 num, .int .i64 width] w fun e w' => WrAns w g h0 h1 h2 v (O ++ beB num width) e w' := by
  obtain ⟨i, hi, hz0, hz1, hz2⟩ := info_parts infoB
  go_enter Tryz.func120, Tryz.ntmps120
  go_wp2_with fail
  go_loopw [6] (fun i wr => ∃ (k : Nat) (v' : Value) (O' : List Int), k ≤ width ∧ i = .int .i64 ((k : Int) - 1) ∧ Hid (O' ++ beB num k = O ++ beB num width) ∧ O'.length + k = O.length + width ∧ Wr wr g h0 h1 h2 v' O' ∧ WK g w v wr v' ∧ Below g w wr) (fun i _ => (intOf i + 1).toNat)
  case atStart => exact ⟨width, v, O, Nat.le_refl _, rfl, hide rfl, rfl, hw, WK.refl _ _ _, Below.refl _ _⟩
  case round =>
    obtain ⟨k, v', O', hk, rfl, HR, hl, W1, K1, B1⟩ := hrel
    cases k with
    | zero =>
      have HX := hide (show O' = O ++ beB num width by have := unhide HR; rw [beB, List.append_nil] at this; exact this)
      go_wp2_with fail
      exact bodyPost_end (by simp [results, Tryz.results120, go_sem]) rfl ⟨rfl, v', by rw [← unhide HX]; exact W1, K1, B1⟩
    | succ k =>
      have i0 : (0 : Int) ≤ ((k + 1 : Nat) : Int) - 1 := by omega
      have ik : (((k + 1 : Nat) : Int) - 1) = (k : Int) := by omega
      rw [ik]
      have ik7 : (k : Int) ≤ 7 := by omega
      have ik0 : (0 : Int) ≤ (k : Int) := by omega
      have sh : ∀ w, (Op.shift .shr .i64 num .i64 (IntKind.i64.wrap (8 * (k : Int)))).run Tryz.prog w = .ok (.int .i64 (num / 2 ^ (8 * k))) w := fun w => by
        rw [IntKind.wrap_i64, show (8 * (k : Int) + 9223372036854775808) % 18446744073709551616 - 9223372036854775808 = 8 * (k : Int) by omega, shift_shr .i64 .i64 num (8 * (k : Int)) (by omega) (by show 8 * (k : Int) ≤ 64; omega), show (8 * (k : Int)).toNat = 8 * k by omega]
        rfl
      have cv : IntKind.u8.wrap (num / 2 ^ (8 * k)) = byteAt num k := wrap_u8_eq _
      have HB := hide (show (O' ++ [byteAt num k]) ++ beB num k = O ++ beB num width by have := unhide HR; rw [beB] at this; rw [← this, List.append_assoc]; rfl)
      obtain ⟨x, c, rfl⟩ := bytes_form W1.own
      have q3 := W1.row.cell 3
      have f3 := W1.row.frozen 3
      simp only [List.getElem?_toArray, List.getElem?_cons_succ, List.getElem?_cons_zero] at q3
      clear HR
      go_wp2_with fail
      have qd : wr.drew.cell? ⟨g, 3, none⟩ = some (.slice x O'.length c) ∧ wr.drew.frozen? ⟨g, 3, none⟩ = false := ⟨q3, f3⟩
      have hgl := W1.row.lt
      have hgo : ∀ q, (Value.slice x O'.length c).ownBlock = some q → g + 1 ≤ q := fun q hq => (W1.own.lt q hq).1
      have f4 : (wr.alloc (.cells #[.int .u8 (byteAt num k)] 5)).drew.frozen? ⟨g, 3, none⟩ = false := (W1.row.alloc _).frozen 3
      have ow : (wr.alloc (.cells #[.int .u8 (byteAt num k)] 5)).drew.ownsRow (g + 1) 5 1 (.slice x O'.length c) O'.length (bytesV O') := (W1.own.alloc _).drew
      go_region_law (refine step_append_lies _ rfl _ _ 166 rfl (g + 1) 5 i (.int .u8 0) 1 1 Tryz.underlying166 hi hz0 hz1 hz2 rfl (by decide) (.slice x O'.length c) O'.length (bytesV O') rfl ow ⟨wr.heap.size, 0, none⟩ 1 1 [.int .u8 (byteAt num k)] rfl rfl (one_byte wr _ _ _ rfl) (by intro u hu; simp at hu; subst hu; rfl) (by decide) (by unfold maxLen; omega) (by omega) (by simp; omega) _ rfl ?_; intro b1 c1 w1 O1 hgrow hat hlt; have R1 : Row w1 g #[.int .i64 h0, .int .i64 h1, .int .i64 h2, .slice x O'.length c] 193 := ⟨(hgrow.block g (by simp; omega) (fun e => by have := hgo g e.symm; omega)).trans (W1.row.alloc (.cells #[.int .u8 (byteAt num k)] 5)).out⟩; have s1 : w1.cell? ⟨g, 3, none⟩ = some (.slice x O'.length c) ∧ w1.frozen? ⟨g, 3, none⟩ = false := ⟨R1.cell 3, R1.frozen 3⟩; obtain ⟨t1, t2⟩ := s1)
      all_goals
        have hg2 : (wr.alloc (.cells #[.int .u8 (byteAt num k)] 5)).grownBy w1 (Value.slice x O'.length c).ownBlock := ⟨hgrow.os, hgrow.tape, hgrow.output, hgrow.size, hgrow.block⟩
        have K2 := K1.trans (wk_append (n := O'.length + 1) (c := c1) hg2 (hat.imp id (fun e => by rw [e]; show (wr.alloc _).heap.size = _; simp)) (.slice (some ⟨b1, 0, none⟩) (O'.length + 1) c1))
        have B2 := ((B1.alloc (by omega) (.cells #[.int .u8 (byteAt num k)] 5)).grown hg2 (by simp; omega) (fun q hq => by have := hgo q hq; omega)).setCell (p := ⟨g, 3, none⟩) (Nat.le_refl _) (.slice (some ⟨b1, 0, none⟩) (O'.length + 1) c1)
        have W2 : Wr (w1.setCell ⟨g, 3, none⟩ (.slice (some ⟨b1, 0, none⟩) (O'.length + 1) c1)) g h0 h1 h2 (.slice (some ⟨b1, 0, none⟩) (O'.length + 1) c1) (O' ++ [byteAt num k]) := ⟨R1.set 3 _, bytes_far (bytes_snoc O1)⟩
        clear hgrow hg2 hat O1 ow
        go_wp2_with fail
        go_roundw
        case rel => exact ⟨k, _, O' ++ [byteAt num k], by omega, by go_num, HB, by rw [List.length_append, List.length_singleton]; omega, W2, K2, B2⟩
        case measure => simp [intOf]

end Go.Proofs.YtpbopjgmiaoomaaGreatDoor

namespace Go.Proofs.YtpbopjgmiaoomaaGreatDoor
open Go.RowKit
set_option linter.unusedVariables false

theorem IsT.inv {N : List Nd} {i : Nat} {f : Ex} (u : IsT N i f) {x : Nd} (hx : N[i]? = some x) :
    (x.op = 1 ∧ f = .int i x.num) ∨ (x.op = 2 ∧ f = .text i x.text) ∨ (x.op = 3 ∧ f = .bool i (decide (x.num = 1))) ∨ (x.op = 4 ∧ ∃ a n c, f = .set i a n c x.names) ∨ (x.op = 5 ∧ f = .name i x.text) ∨ (x.op = 6 ∧ f = .attr i x.num) ∨ (x.op = 7 ∧ f = .lett i x.num) ∨
    ((8 ≤ x.op ∧ x.op ≤ 10) ∧ ∃ (k : Nat) (e : Ex), x.kids = [(k : Int)] ∧ IsT N k e ∧ f = .un i x.op e) ∨
    ((11 ≤ x.op ∧ x.op ≤ 26) ∧ ∃ (k l : Nat) (e g : Ex), x.kids = [(k : Int), (l : Int)] ∧ IsT N k e ∧ IsT N l g ∧ f = .bin i x.op e g) ∨
    (x.op = 27 ∧ ∃ (k l m : Nat) (e g h : Ex), x.kids = [(k : Int), (l : Int), (m : Int)] ∧ IsT N k e ∧ IsT N l g ∧ IsT N m h ∧ f = .ite i e g h) := by
  have same : ∀ {y : Nd}, N[i]? = some y → y = x := fun k => Option.some.inj (k.symm.trans hx)
  cases u with
  | int h ho hk => obtain rfl := same h; exact .inl ⟨ho, rfl⟩
  | text h ho hk => obtain rfl := same h; exact .inr (.inl ⟨ho, rfl⟩)
  | bool h ho hk => obtain rfl := same h; exact .inr (.inr (.inl ⟨ho, rfl⟩))
  | set h ho hk a n c => obtain rfl := same h; exact .inr (.inr (.inr (.inl ⟨ho, a, n, c, rfl⟩)))
  | name h ho hk => obtain rfl := same h; exact .inr (.inr (.inr (.inr (.inl ⟨ho, rfl⟩))))
  | attr h ho hk => obtain rfl := same h; exact .inr (.inr (.inr (.inr (.inr (.inl ⟨ho, rfl⟩)))))
  | lett h ho hk => obtain rfl := same h; exact .inr (.inr (.inr (.inr (.inr (.inr (.inl ⟨ho, rfl⟩))))))
  | un h ho hk hi t => obtain rfl := same h; exact .inr (.inr (.inr (.inr (.inr (.inr (.inr (.inl ⟨ho, _, _, hk, t, rfl⟩)))))))
  | bin h ho hk hi t u => obtain rfl := same h; exact .inr (.inr (.inr (.inr (.inr (.inr (.inr (.inr (.inl ⟨ho, _, _, _, _, hk, t, u, rfl⟩))))))))
  | ite h ho hk hi t u v => obtain rfl := same h; exact .inr (.inr (.inr (.inr (.inr (.inr (.inr (.inr (.inr ⟨ho, _, _, _, _, _, _, hk, t, u, v, rfl⟩))))))))

end Go.Proofs.YtpbopjgmiaoomaaGreatDoor

/-
  JK, JL. Own work.
-/
import Derived.Test.YtddpcehgopeklaaGreatDoorMXAY
import Derived.Test.YtddpcehgopeklaaGreatDoorMXAV
namespace Go.Proofs.YtddpcehgopeklaaGreatDoor
open Go.RowKit
set_option linter.unusedVariables false

abbrev CkS := List ByteArray × List Int × List Int

open Classical in
/-- a condition's type is found -/
noncomputable def ckE (kd : Int) (nm : ByteArray) (st : CkS) (ot : Option Int) (ys : List Int) : Option CkS :=
  if kd = 1 then (match ot with | some t => if nm ∈ st.1 then none else some (st.1 ++ [nm], st.2.1 ++ [t], st.2.2 ++ ys) | none => none)
  else (match ot with | some t => if t = 1 then some (st.1, st.2.1, st.2.2 ++ ys) else none | none => none)

noncomputable def ckCond (Es : List Ex) (st : CkS) (s : St) : Option CkS := if s.cond = -1 then some st else match Es[s.cond.toNat]? with
  | some e => ckE s.kind s.name st (tyE st.2.1 e) (tysE st.2.1 e)
  | none => none

/-- how many nodes a place bears -/
def cntP (Es : List Ex) (k : Int) : Nat := if k = -1 then 0 else match Es[k.toNat]? with
  | some e => e.cnt
  | none => 0

def cntL (Es : List Ex) (L : List St) : Nat := (L.map fun s => cntP Es s.cond + cntP Es s.grant).sum

end Go.Proofs.YtddpcehgopeklaaGreatDoor

namespace Go.Proofs.YtddpcehgopeklaaGreatDoor
open Go.RowKit
set_option linter.unusedVariables false

theorem cntL_room (Es : List Ex) (L : List St) (k : Nat) (h : k < L.length) : cntL Es (L.take k) + (cntP Es L[k].cond + cntP Es L[k].grant) ≤ cntL Es L := by
  have e : L = L.take k ++ (L[k] :: L.drop (k + 1)) := by rw [List.getElem_cons_drop, List.take_append_drop]
  have e2 := congrArg (cntL Es) e
  simp only [cntL, List.map_append, List.map_cons, List.sum_append, List.sum_cons] at e2 ⊢
  omega

theorem cntP_at {Es : List Ex} {k : Int} {m : Nat} {e : Ex} (h : k = (m : Nat)) (he : Es[m]? = some e) : cntP Es k = e.cnt := by
  rw [cntP, if_neg (by omega), h, Int.toNat_natCast, he]

theorem Kd.row {B cb mb : Nat} {lv tv lv' tv' : Value} {w w' : World} (h : Kd B cb mb lv tv w lv' tv' w') {g : Nat} {cs : Array Value} {t : TypeId} (R : Row w g cs t) (h1 : g ≠ cb) (h2 : g ≠ mb) (h3 : lv.ownBlock ≠ some g) (h4 : tv.ownBlock ≠ some g) : Row w' g cs t ∧ lv'.ownBlock ≠ some g ∧ tv'.ownBlock ≠ some g := by
  refine ⟨⟨(h.keep g R.lt h1 h2 (fun e => h3 e.symm) (fun e => h4 e.symm)).trans R.out⟩, fun e => ?_, fun e => ?_⟩
  · rcases h.newl g e with e2 | e2
    · exact h3 e2
    · have := R.lt; omega
  · rcases h.newt g e with e2 | e2
    · exact h4 e2
    · have := R.lt; omega

end Go.Proofs.YtddpcehgopeklaaGreatDoor

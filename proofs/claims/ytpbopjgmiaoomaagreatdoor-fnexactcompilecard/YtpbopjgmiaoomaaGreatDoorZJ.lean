/-
  A tree under the model's checker. Own work.
-/
import Derived.Test.YtpbopjgmiaoomaaGreatDoorMXAP
import Derived.Test.YtpbopjgmiaoomaaGreatDoorMXAS
namespace Go.Proofs.YtpbopjgmiaoomaaGreatDoor
open Go.RowKit
set_option linter.unusedVariables false

/-- the nodes from a place on are those of a tree -/
def spanOK (Es : List Ex) (f : Nat) (e : Ex) : Prop := ∀ ts, allO ((List.range' f e.cnt).map (nodeTy Es ts)) = (tyE ts e).map (fun _ => tysE ts e)

def treeAt (Es : List Ex) (c : Nat) (k : Int) : Prop := k = -1 ∨ ∃ (mm : Nat) (e : Ex), k = mm ∧ Es[mm]? = some e ∧ c + e.cnt = mm + 1 ∧ spanOK Es c e

theorem tysE_last (ts : List Int) : ∀ (e : Ex), ∃ l, tysE ts e = l ++ [(tyE ts e).getD 0]
  | .int .. | .text .. | .bool .. | .set .. | .name .. | .attr .. | .lett .. => ⟨[], rfl⟩
  | .un _ _ _ => ⟨_, rfl⟩
  | .bin _ _ _ _ => ⟨_, rfl⟩
  | .ite _ _ _ _ => ⟨_, rfl⟩

theorem tysE_at {ts tt : List Int} {e : Ex} {mm : Nat} {t : Int} (h : tt.length + e.cnt = mm + 1) (ht : tyE ts e = some t) : (tt ++ tysE ts e)[mm]? = some t := by
  obtain ⟨l, hl⟩ := tysE_last ts e
  have h2 := tysE_len ts e
  rw [hl] at h2 ⊢
  rw [List.length_append, List.length_singleton] at h2
  rw [← List.append_assoc, List.getElem?_append_right (by rw [List.length_append]; omega), List.length_append, show mm - (tt.length + l.length) = 0 by omega, ht]
  rfl

theorem tree_any (a : Option Addr) (n c : Nat) (N : List Nd) (hU : ∀ x ∈ N, fieldsU x = true) (w0 : World) (hN : Nds w0 a n c N) (B : Nat) (hB : w0.heap.size ≤ B) (Es : List Ex) (hEl : Es.length = n) (hE : ∀ j, (h : j < Es.length) → IsT N j Es[j]) (hn : n ≤ 4000)
    (lb : Nat) (ns : List ByteArray) (ts tt : List Int) (nv lv tv : Value) (hin : ∀ t ∈ ts, 1 ≤ t ∧ t ≤ 4) (hts : ts.length ≤ 1000) (htt : tt.length ≤ 4000) (mm : Nat) (e : Ex) (he : Es[mm]? = some e) (h1 : tt.length + e.cnt = mm + 1) (hs : spanOK Es tt.length e) (W : World) (hW : Below w0.heap.size w0 W) (hM : Lm B lb ns ts tt nv lv tv W) (hBW : B ≤ W.heap.size) :
    Calls Tryz.prog 73 #[.slice a n c, .int .i64 tt.length, .int .i64 mm, .pointer (some ⟨lb, 0, none⟩), tv] W (TrAns B tv tt ((tyE ts e).map (fun _ => tysE ts e)) W) := by
  obtain ⟨la, lc, rfl, hla⟩ := owns_form2 hM.lets
  have hmm : mm < Es.length := (List.getElem?_eq_some_iff.1 he).1
  have e1 : (mm : Int) = ((tt.length + e.cnt : Nat) : Int) - 1 := by omega
  rw [← hs ts, e1]
  refine l3tree_any a n c N hU w0 hN B hB lb la ts.length lc ts hin Es hEl hE tt.length e.cnt (by omega) (by omega) hn tv tt htt W hW hBW (hM.row.cell 1) hM.row.lt (ints_of_row hM.lets (by omega)) (fun e => own_ne_row hM.row hM.types (by decide) e.symm) (fun x hx e => ?_) hM.types
  by_cases h0 : ts.length = 0
  · have h2 : lb < W.heap.size := hM.row.lt
    rcases hM.lets.2 with ⟨hv, _⟩ | ⟨g, cap, cur, hv, _⟩
    · rw [hx] at hv; cases hv
    · rw [hx] at hv
      cases hv
      exact hM.apart g (by rw [hx]; rfl) e.symm
  · obtain ⟨g, hg, _⟩ := hla (by omega)
    rw [hg] at hx
    cases hx
    exact hM.apart g (by rw [hg]; rfl) e.symm

end Go.Proofs.YtpbopjgmiaoomaaGreatDoor

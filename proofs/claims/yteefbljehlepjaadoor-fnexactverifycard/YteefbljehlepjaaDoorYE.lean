/-
  The program's verifier: lists of numbers copied; slots. Own work.
-/
import Derived.Test.YteefbljehlepjaaDoorYD
import Derived.Test.YteefbljehlepjaaDoorShelf
import Derived.OwnWalk
namespace Go.Proofs.YteefbljehlepjaaDoor
open Go.RowKit Go.Lib
set_option linter.unusedVariables false

def intsV (L : List Int) : List Value := L.map (Value.int .i64)

theorem ints_own {w : World} {base : Nat} {x : Option Addr} {n c : Nat} {L : List Int} (h : w.ownsRow base 3 1 (.slice x n c) n (intsV L)) (hn : n ≤ 1048576) : Ints w x n c L := by
  have hl : L.length = n := by have := h.1; rw [intsV, List.length_map] at this; omega
  refine ⟨hl, hn, fun j hj => ?_⟩
  obtain ⟨g, hg⟩ : ∃ g, x = some ⟨g, 0, none⟩ := by
    rcases h.2 with ⟨_, h0⟩ | ⟨g, cap, cur, hv, _⟩
    · omega
    · simp only [Value.slice.injEq] at hv; exact ⟨g, hv.1⟩
  subst hg
  refine ⟨g, 0, rfl, (h.lt g rfl).2, ?_⟩
  rw [Nat.zero_add, h.cellAt j (by omega), intsV, List.getElem?_map, List.getElem?_eq_getElem hj]
  rfl

/-- numbers of the call's own -/
def OwnI (w : World) (L : List Int) (e : Ending) (w' : World) : Prop := ∃ x c, e = .returned (.slice x L.length c) ∧ w'.ownsRow w.heap.size 3 1 (.slice x L.length c) L.length (intsV L) ∧ Below w.heap.size w w'

theorem cloneI_any (a : Option Addr) (n c : Nat) (L : List Int) (w : World) (h : Ints w a n c L) :
    Calls Tryd.prog 53 #[.slice a n c] w fun e w' => OwnI w L e w' := by
  have hl := h.len
  have hs := h.small
  cases a with
  | none =>
    have hL : L = [] := by
      cases L with
      | nil => rfl
      | cons x L =>
        obtain ⟨b, off, hn, _⟩ := h.cells 0 (by simp)
        cases hn
    subst hL
    refine (Tryd.slices_Clone_int_nil n c w).mono ?_
    rintro e w' ⟨rfl, rfl⟩
    exact ⟨none, 0, rfl, World.ownsRow_nil _ _ _ _, Below.refl _ _⟩
  | some ad =>
    cases L with
    | nil =>
      have hn : n = 0 := by simpa using hl.symm
      subst hn
      refine (Tryd.slices_Clone_int_zero ad c w).mono ?_
      rintro e w' ⟨v', rfl, ho, _, hb⟩
      obtain ⟨x, c', rfl⟩ := owns_form ho
      exact ⟨x, c', rfl, ho, hb⟩
    | cons y L =>
      obtain ⟨b, off, hn, _⟩ := h.cells 0 (by simp)
      cases hn
      refine (Tryd.slices_Clone_int b off n c (y :: L) w (by omega) (by omega) (fun j hj => ?_)).mono ?_
      · obtain ⟨b', off', hn', _, hc⟩ := h.at j (by omega)
        cases hn'
        exact hc
      · rintro e w' ⟨v', rfl, ho, _, hb⟩
        rw [List.take_of_length_le (by omega)] at ho
        obtain ⟨x, c', rfl⟩ := owns_form ho
        subst hl
        exact ⟨x, c', rfl, ho, hb⟩

theorem intsV_set (L : List Int) (k : Nat) (x : Int) : (intsV L).set k (.int .i64 x) = intsV (L.set k x) := by
  rw [intsV, intsV, List.map_set]

/-- numbers that lie in memory -/
def IntA (w : World) (a : Option Addr) (L : List Int) (e : Ending) (w' : World) : Prop := ∃ x c, e = .returned (.slice x L.length c) ∧ Ints w' x L.length c L ∧ L.length ≤ c ∧ c ≤ maxLen ∧ (x = a ∨ ∀ ad, x = some ad → w.heap.size ≤ ad.block) ∧ Below w.heap.size w w'

theorem set_same (L : List Int) (k : Nat) (x : Int) (h : L.getD k 0 = x) (hk : k < L.length) : L.set k x = L := by
  apply List.ext_getElem
  · simp
  · intro i h1 h2
    rw [List.getElem_set]
    split
    · rename_i e; subst e
      rw [List.getD, List.getElem?_eq_getElem hk] at h
      exact h.symm
    · rfl

set_option maxRecDepth 100000 in
set_option maxHeartbeats 1600000 in
theorem withSlot_any (a : Option Addr) (n c k : Nat) (L : List Int) (x : Int) (w : World) (h : Ints w a n c L) (hk : k < n) (hc : n ≤ c) (hcs : c ≤ maxLen) (hn : n ≤ 600) :
    Calls Tryd.prog 51 #[.slice a n c, .int .i64 k, .int .i64 x] w fun e w' => IntA w a (L.set k x) e w' := by
  have hl := h.len
  obtain ⟨b, off, ha, hbl, hcell⟩ := h.at k hk
  subst ha
  have HC := hide (cloneI_any _ n c L w h)
  have hsm := h.small
  have Hint := hide h
  have Hl := hide hl
  have ik : (k : Int) < (n : Int) := by omega
  by_cases hx : L.getD k 0 = x
  · have HX := hide (set_same L k x hx (by omega))
    subst hx
    clear h hl
    generalize L.getD k 0 = y at hcell HX
    go_enter Tryd.func51, Tryd.ntmps51
    go_wp2_with fail
    go_ret
    rw [unhide HX]
    have hl := unhide Hl
    subst hl
    exact ⟨_, _, rfl, unhide Hint, hc, hcs, .inl rfl, Below.refl _ _⟩
  · have hxb : (L.getD k 0 == x) = false := beq_eq_false_iff_ne.2 hx
    clear h hl hx
    generalize L.getD k 0 = y at hcell hxb
    go_enter Tryd.func51, Tryd.ntmps51
    go_wp2_with fail
    refine (unhide HC).mono ?_
    rintro e w1 ⟨x1, c1, rfl, ow1, hb1⟩
    have hl := unhide Hl
    have hkl : k < L.length := by omega
    obtain ⟨g, hg, hcap⟩ : ∃ g, x1 = some ⟨g, 0, none⟩ ∧ L.length ≤ c1 ∧ c1 ≤ maxLen := by
      rcases ow1.2 with ⟨_, h0⟩ | ⟨g, cap, cur, hv, _, _, h1, h2, _⟩
      · omega
      · simp only [Value.slice.injEq] at hv
        obtain ⟨hv1, _, rfl⟩ := hv
        exact ⟨g, hv1, h1, h2⟩
    subst hg
    have c0 := (ow1.cellAt k (by omega)).trans (by rw [intsV, List.getElem?_map, List.getElem?_eq_getElem hkl])
    simp only [Option.map_some] at c0
    have cf := fun i => ow1.frozenAt i
    have HO := hide (ow1.stored k (.int .i64 x)).1
    have hgl := (ow1.lt g rfl).1
    have ikl : (k : Int) < (L.length : Int) := by omega
    have Hll := hide hkl
    clear ow1 hl
    go_wp2_with fail
    go_ret
    have O2 := unhide HO
    rw [intsV_set] at O2
    have hls : (L.set k x).length = L.length := by simp
    refine ⟨some ⟨g, 0, none⟩, c1, by rw [hls]; rfl, ints_own (by rw [hls]; exact O2) (by rw [hls, unhide Hl]; exact hsm), by rw [hls]; exact hcap.1, hcap.2, .inr (fun ad e => by cases e; exact hgl), hb1.setCell (p := ⟨g, k, none⟩) hgl _⟩

end Go.Proofs.YteefbljehlepjaaDoor

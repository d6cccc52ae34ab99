/-
  The model's verifier, whole. Own work.
-/
import Derived.Test.YtogenboibgddaaaGreatDoorYS
import Derived.Laws.MakeOwn
import Derived.BigQuiet
import Derived.Deep.QuietTactic
namespace Go.Proofs.YtogenboibgddaaaGreatDoor
open Go.RowKit Go.Lib
set_option linter.unusedVariables false

/-- what holds of each state that is known -/
def Sok (S : Nat) (s : Vs) : Prop := s.stack.length ≤ 100 ∧ s.slots.length = S ∧ (∀ x ∈ s.stack, 1 ≤ x) ∧ ∀ x ∈ s.slots, 0 ≤ x

theorem behindV_ok {PK : List Int} {S : Nat} {i : Is1} {s : Vs} (hpk : ∀ x ∈ PK, 1 ≤ x) (h0 : 1 ≤ i.op) (h1 : i.op ≤ 25) (hp : popV i.op ≤ s.stack.length) (ht : takesV i s = true) (hs : Sok S s) : (∀ x ∈ (behindV PK i s).stack, 1 ≤ x) ∧ ∀ x ∈ (behindV PK i s).slots, 0 ≤ x := by
  obtain ⟨_, _, h3, h4⟩ := hs
  have hn : 0 ≤ pushV PK i s := by
    have := takes_push PK i s.stack s.slots h0 h1 ht
    rw [show (⟨s.stack, s.slots⟩ : Vs) = s from rfl] at this
    rw [← this]
    exact takesM_nonneg PK i s.slots hpk h4
  unfold behindV
  split
  · rename_i e
    rw [e] at hp
    have hl : 1 ≤ s.stack.length := hp
    refine ⟨fun x hx => h3 x (List.mem_of_mem_take hx), fun x hx => ?_⟩
    rcases List.mem_or_eq_of_mem_set hx with h | h
    · exact h4 x h
    · subst h
      have := top_pos s.stack hl h3
      omega
  split
  · exact ⟨fun x hx => h3 x (List.mem_of_mem_take hx), h4⟩
  · refine ⟨fun x hx => ?_, h4⟩
    simp only [List.mem_append, List.mem_singleton] at hx
    rcases hx with h | h
    · exact h3 x (List.mem_of_mem_take h)
    · subst h; omega

theorem stepV_ok {PK : List Int} {S M k : Nat} {i : Is1} {s : Vs} (hpk : ∀ x ∈ PK, 1 ≤ x) (h0 : 1 ≤ i.op) (h1 : i.op ≤ 25) (hs : Sok S s) (h : (stepV PK S M k i s).1 = 0) : Sok S (stepV PK S M k i s).2 := by
  have hh := stepV_height h
  have hl : (stepV PK S M k i s).2.slots.length = S := by rw [stepV_slots]; exact hs.2.1
  unfold stepV at h hh hl ⊢
  split at h
  · cases h
  split at h
  · cases h
  split at h
  · cases h
  split at h
  · cases h
  split at h
  · cases h
  rename_i a1 a2 a3 a4 a5
  rw [if_neg a1, if_neg a2, if_neg a3, if_neg a4, if_neg a5] at hh hl ⊢
  have hb := behindV_ok (PK := PK) (i := i) hpk h0 h1 (by omega) (by simpa using a3) hs
  exact ⟨hh, hl, hb.1, hb.2⟩

/-- where it goes on lies behind, and only the first place may be the end -/
theorem next_tail {np S m k : Nat} {i : Is1} (h : rangeV np S m k i = true) (hk : k < m) (h0 : 0 ≤ i.arg) : (∀ x ∈ nextV k i, k < x) ∧ ∀ x ∈ (nextV k i).tail, x < m := by
  obtain ⟨op, arg⟩ := i
  simp only at h0
  unfold rangeV at h
  unfold nextV
  simp only at h ⊢
  by_cases e1 : op = 24 ∨ op = 25
  · rw [if_pos e1]; simp
  rw [if_neg e1]
  by_cases e2 : op = 22
  · subst e2
    simp at h ⊢
    omega
  rw [if_neg e2]
  by_cases e3 : op = 23
  · subst e3
    simp at h ⊢
    omega
  rw [if_neg e3]
  simp

/-- a place's three cells -/
def CellOk (w : World) (lo : Nat) (cs : Array Value) (j : Nat) : Option Vs → Prop
  | none => ∃ x1 n1 c1 x2 n2 c2, cs[j * 3]? = some (.bool false) ∧ cs[j * 3 + 1]? = some (.slice x1 n1 c1) ∧ cs[j * 3 + 2]? = some (.slice x2 n2 c2)
  | some s => ∃ x c y d, cs[j * 3]? = some (.bool true) ∧ cs[j * 3 + 1]? = some (.slice x s.stack.length c) ∧ cs[j * 3 + 2]? = some (.slice y s.slots.length d) ∧ Lt w x y s.stack.length c s.slots.length d s ∧ (∀ ad, x = some ad → lo ≤ ad.block) ∧ ∀ ad, y = some ad → lo ≤ ad.block

/-- the model's states from a place on -/
structure Ks (w : World) (lo sb m k : Nat) (K : List (Option Vs)) (cs : Array Value) : Prop where
  row : Row w sb cs 79
  size : cs.size = m * 3
  low : sb < lo
  loc : ∀ j, k ≤ j → j < m → CellOk w lo cs j (K.getD j none)

theorem Lt.far {w : World} {ta tb : Option Addr} {tn tc tm td lo : Nat} {s : Vs} (h : Lt w ta tb tn tc tm td s) (ha : ∀ ad, ta = some ad → lo ≤ ad.block) (hb : ∀ ad, tb = some ad → lo ≤ ad.block) (p : Addr) (v : Value) (hp : p.block < lo) : Lt (w.setCell p v) ta tb tn tc tm td s := ⟨h.st.far ha p v hp, h.sl.far hb p v hp, h.n1, h.n2⟩

theorem CellOk.below {w w' : World} {lo B j : Nat} {cs : Array Value} {o : Option Vs} (h : CellOk w lo cs j o) (hb : Below B w w') (hB : w.heap.size ≤ B) : CellOk w' lo cs j o := by
  cases o with
  | none => exact h
  | some s =>
    obtain ⟨x, c, y, d, h1, h2, h3, h4, h5⟩ := h
    exact ⟨x, c, y, d, h1, h2, h3, h4.below hb hB, h5⟩

theorem Ks.below {w w' : World} {lo sb m k B : Nat} {K : List (Option Vs)} {cs : Array Value} (h : Ks w lo sb m k K cs) (hb : Below B w w') (hB : w.heap.size ≤ B) : Ks w' lo sb m k K cs :=
  ⟨h.row.after hb hB, h.size, h.low, fun j h1 h2 => (h.loc j h1 h2).below hb hB⟩

def put3 (w : World) (b o : Nat) (x y z : Value) : World := ((w.setCell ⟨b, o, none⟩ x).setCell ⟨b, o + 1, none⟩ y).setCell ⟨b, o + 2, none⟩ z

theorem cells3 (cs : Array Value) (j i : Nat) (x y z : Value) (h : j * 3 + 3 ≤ cs.size) : (((cs.setIfInBounds (j * 3) x).setIfInBounds (j * 3 + 1) y).setIfInBounds (j * 3 + 2) z)[i]? = if i = j * 3 then some x else if i = j * 3 + 1 then some y else if i = j * 3 + 2 then some z else cs[i]? := by
  simp only [Array.getElem?_setIfInBounds, Array.size_setIfInBounds]
  by_cases h2 : j * 3 + 2 = i
  · subst h2; simp; omega
  · rw [if_neg h2]
    by_cases h1 : j * 3 + 1 = i
    · subst h1; simp; omega
    · rw [if_neg h1]
      by_cases h0 : j * 3 = i
      · subst h0; simp; omega
      · rw [if_neg h0, if_neg (fun e => h0 e.symm), if_neg (fun e => h1 e.symm), if_neg (fun e => h2 e.symm)]

/-- a place is laid anew -/
theorem Ks.put {w : World} {lo sb m k : Nat} {K : List (Option Vs)} {cs : Array Value} (h : Ks w lo sb m k K cs) (n : Nat) (hn : n < m) (x y z : Value) (K' : List (Option Vs)) (k' : Nat) (hk : k ≤ k') (hK : ∀ j, k' ≤ j → j < m → j ≠ n → K'.getD j none = K.getD j none)
    (hc : k' ≤ n → CellOk (put3 w sb (n * 3) x y z) lo (((cs.setIfInBounds (n * 3) x).setIfInBounds (n * 3 + 1) y).setIfInBounds (n * 3 + 2) z) n (K'.getD n none)) :
    Ks (put3 w sb (n * 3) x y z) lo sb m k' K' (((cs.setIfInBounds (n * 3) x).setIfInBounds (n * 3 + 1) y).setIfInBounds (n * 3 + 2) z) where
  row := ((h.row.set (n * 3) x).set (n * 3 + 1) y).set (n * 3 + 2) z
  size := by simp [h.size]
  low := h.low
  loc := fun j h1 h2 => by
    by_cases e : j = n
    · subst e; exact hc h1
    · rw [hK j h1 h2 e]
      have hs : n * 3 + 3 ≤ cs.size := by rw [h.size]; omega
      have c0 := cells3 cs n (j * 3) x y z hs
      have c1 := cells3 cs n (j * 3 + 1) x y z hs
      have c2 := cells3 cs n (j * 3 + 2) x y z hs
      rw [if_neg (by omega), if_neg (by omega), if_neg (by omega)] at c0 c1 c2
      have ho := h.loc j (by omega) h2
      cases hg : K.getD j none with
      | none =>
        rw [hg] at ho
        obtain ⟨x1, n1, d1, x2, n2, d2, a0, a1, a2⟩ := ho
        exact ⟨x1, n1, d1, x2, n2, d2, c0.trans a0, c1.trans a1, c2.trans a2⟩
      | some s =>
        rw [hg] at ho
        obtain ⟨x', c', y', d', a0, a1, a2, a3, a4, a5⟩ := ho
        exact ⟨x', c', y', d', c0.trans a0, c1.trans a1, c2.trans a2, ((a3.far a4 a5 _ _ h.low).far a4 a5 _ _ h.low).far a4 a5 _ _ h.low, a4, a5⟩

theorem Row.cells3 {w : World} {b : Nat} {cs : Array Value} {t : TypeId} (R : Row w b cs t) (j : Nat) (x y z : Value) (h0 : cs[j * 3]? = some x) (h1 : cs[j * 3 + 1]? = some y) (h2 : cs[j * 3 + 2]? = some z) : w.cell? ⟨b, j * 3, none⟩ = some x ∧ w.cell? ⟨b, j * 3 + 1, none⟩ = some y ∧ w.cell? ⟨b, j * 3 + 2, none⟩ = some z := ⟨(R.cell _).trans h0, (R.cell _).trans h1, (R.cell _).trans h2⟩

theorem infoLS : (Tryz.prog.info? 79).map (fun i => (i.zero, i.size, i.bytes)) = some (some (.agg #[.bool false, .slice none 0 0, .slice none 0 0]), 3, 56) := by kernel_rfl

/-- states that are not known -/
def zs (m : Nat) : Array Value := madeCells #[.bool false, .slice none 0 0, .slice none 0 0] (m * 3)

theorem zs_size (m : Nat) : (zs m).size = m * 3 := size_madeCells _ _

theorem zs_at (m j : Nat) (h : j < m) : (zs m)[j * 3]? = some (.bool false) ∧ (zs m)[j * 3 + 1]? = some (.slice none 0 0) ∧ (zs m)[j * 3 + 2]? = some (.slice none 0 0) := by
  have e0 : j * 3 % 3 = 0 := by omega
  have e1 : (j * 3 + 1) % 3 = 1 := by omega
  have e2 : (j * 3 + 2) % 3 = 2 := by omega
  refine ⟨?_, ?_, ?_⟩
  · simp [zs, madeCells, e0, show j * 3 < m * 3 by omega]
  · simp [zs, madeCells, e1, show j * 3 + 1 < m * 3 by omega]
  · simp [zs, madeCells, e2, show j * 3 + 2 < m * 3 by omega]

def mkS (w : World) (m : Nat) : World := w.alloc (.cells (zs m) 79)

theorem make_states (m : Nat) (hm : m ≤ 1048576) (w : World) : (Instr.makeSlice 76 (.int .i64 (m : Int)) (.int .i64 (m : Int))).run Tryz.prog w = .ok (.slice (some ⟨w.heap.size, 0, none⟩) m m) (mkS w m) := by
  obtain ⟨i, hi, hz0, hz1, hz2⟩ := info_parts infoLS
  have h := run_make w (P := Tryz.prog) 76 79 i _ Tryz.underlying76 hi hz0 .i64 .i64 (m : Int) (m : Int) (by omega) (Int.le_refl _) (by rw [hz2]; omega) (by omega)
  rw [hz1] at h
  simp only [Int.toNat_natCast] at h
  exact h

theorem shapB_kinds {P : List Vl} {s : Int} {I : List Is1} (h : shapB P s I = true) : ∀ x ∈ P.map Vl.kind, 1 ≤ x := by
  unfold shapB at h
  simp only [Bool.and_eq_true, List.all_eq_true] at h
  intro x hx
  obtain ⟨v, hv, rfl⟩ := List.mem_map.1 hx
  have := h.1.2 v hv
  unfold valB at this
  repeat' split at this
  all_goals first | omega | cases this

/-- the loop's state -/
def VsI (w : World) (sb m S : Nat) (v0 v1 v2 : Value) (PK : List Int) (I : List Is1) (R : Int × Int) (j bd : Nat) (wr : World) : Prop :=
  ∃ (K : List (Option Vs)) (cs : Array Value), j ≤ m ∧ runV PK S I (m - j) j K bd = R ∧ Ks wr (sb + 1) sb m j K cs ∧ K.length = m ∧ (∀ i s, K.getD i none = some s → Sok S s) ∧ bd ≤ 100 ∧ Row wr w.heap.size #[v0, v1, v2] 39 ∧ Below w.heap.size w wr ∧ sb + 1 ≤ wr.heap.size

theorem start_ok (m S : Nat) (hm : 0 < m) : ∀ (i : Nat) (s : Vs), ((List.replicate m (none : Option Vs)).set 0 (some (vs0 S))).getD i none = some s → Sok S s := by
  intro i st hj
  by_cases ei : i = 0
  · subst ei
    rw [List.getD, List.getElem?_set_self (by simpa using hm)] at hj
    simp only [Option.getD_some, Option.some.injEq] at hj
    subst hj
    exact ⟨by simp [vs0], by simp [vs0], by simp [vs0], fun x hx => by simp [vs0] at hx; omega⟩
  · rw [List.getD, List.getElem?_set_ne (fun e => ei e.symm), List.getElem?_replicate] at hj
    split at hj <;> cases hj

/-- the states that the model begins with -/
theorem start_ks {w2 : World} {sb m S : Nat} (hm : 0 < m) (hS : S ≤ 600) (h : Row w2 sb (zs m) 79) :
    Ks (put3 (w2.alloc (.cells (Array.replicate S (.int .i64 0)) 3)) sb (0 * 3) (.bool true) (.slice none 0 0) (.slice (some ⟨w2.heap.size, 0, none⟩) S S)) (sb + 1) sb m 0 ((List.replicate m none).set 0 (some (vs0 S))) ((((zs m).setIfInBounds (0 * 3) (.bool true)).setIfInBounds (0 * 3 + 1) (.slice none 0 0)).setIfInBounds (0 * 3 + 2) (.slice (some ⟨w2.heap.size, 0, none⟩) S S)) := by
  have hno : ∀ j, (List.replicate m (none : Option Vs)).getD j none = none := fun j => by
    rw [List.getD, List.getElem?_replicate]
    split <;> rfl
  have K0 : Ks (w2.alloc (.cells (Array.replicate S (.int .i64 0)) 3)) (sb + 1) sb m 0 (List.replicate m none) (zs m) :=
    ⟨h.alloc _, zs_size m, by omega, fun j _ hj => by
      rw [hno j]
      exact ⟨_, _, _, _, _, _, (zs_at m j hj).1, (zs_at m j hj).2.1, (zs_at m j hj).2.2⟩⟩
  have hlt := h.lt
  refine K0.put 0 hm _ _ _ _ 0 (Nat.le_refl _) (fun j _ _ hj => ?_) (fun _ => ?_)
  · rw [List.getD, List.getElem?_set_ne (fun e => hj e.symm)]
    rfl
  · rw [List.getD, List.getElem?_set_self (by simpa using hm)]
    have hs : 0 * 3 + 3 ≤ (zs m).size := by rw [zs_size]; omega
    have I1 := ints_new w2 w2.heap.size rfl (List.replicate S 0) 3 S (by simp; omega)
    rw [show (List.map (Value.int .i64) (List.replicate S 0)).toArray = Array.replicate S (.int .i64 0) by simp, show (List.replicate S (0 : Int)).length = S by simp] at I1
    have ha : ∀ ad, (some ⟨w2.heap.size, 0, none⟩ : Option Addr) = some ad → sb + 1 ≤ ad.block := fun ad e => by cases e; show sb + 1 ≤ w2.heap.size; omega
    have hL : Lt (w2.alloc (.cells (Array.replicate S (.int .i64 0)) 3)) none (some ⟨w2.heap.size, 0, none⟩) 0 0 S S (vs0 S) := ⟨⟨rfl, by omega, fun j hj => absurd hj (by simp [vs0])⟩, I1, fun _ => rfl, fun e => (by cases e)⟩
    refine ⟨none, 0, some ⟨w2.heap.size, 0, none⟩, S, ?_, ?_, ?_, ?_, fun ad e => (by cases e), ?_⟩
    · rw [cells3 _ _ _ _ _ _ hs, if_pos rfl]
    · rw [cells3 _ _ _ _ _ _ hs, if_neg (by omega), if_pos rfl]; rfl
    · rw [cells3 _ _ _ _ _ _ hs, if_neg (by omega), if_neg (by omega), if_pos rfl]; simp [vs0]
    · have hl : (vs0 S).slots.length = S := by simp [vs0]
      rw [hl]
      exact ((hL.far (lo := sb + 1) (fun ad e => (by cases e)) ha _ _ (by show sb < sb + 1; omega)).far (lo := sb + 1) (fun ad e => (by cases e)) ha _ _ (by show sb < sb + 1; omega)).far (lo := sb + 1) (fun ad e => (by cases e)) ha _ _ (by show sb < sb + 1; omega)
    · exact ha

/-- a state is laid at a place -/
theorem Ks.lay {w : World} {sb m k : Nat} {K : List (Option Vs)} {cs : Array Value} (h : Ks w (sb + 1) sb m k K cs) (n : Nat) (hn : n < m) {x y : Option Addr} {c d : Nat} {t : Vs} (hL : Lt w x y t.stack.length c t.slots.length d t) (hx : ∀ ad, x = some ad → sb + 1 ≤ ad.block) (hy : ∀ ad, y = some ad → sb + 1 ≤ ad.block) (K' : List (Option Vs)) (h1 : K'.getD n none = some t) (h2 : ∀ j, j ≠ n → K'.getD j none = K.getD j none) :
    ∃ cs', Ks (put3 w sb (n * 3) (.bool true) (.slice x t.stack.length c) (.slice y t.slots.length d)) (sb + 1) sb m k K' cs' := by
  refine ⟨_, h.put n hn _ _ _ K' k (Nat.le_refl _) (fun j _ _ hj => h2 j hj) (fun _ => ?_)⟩
  rw [h1]
  have hs : n * 3 + 3 ≤ cs.size := by rw [h.size]; omega
  refine ⟨x, c, y, d, ?_, ?_, ?_, ?_, hx, hy⟩
  · rw [cells3 _ _ _ _ _ _ hs, if_pos rfl]
  · rw [cells3 _ _ _ _ _ _ hs, if_neg (by omega), if_pos rfl]
  · rw [cells3 _ _ _ _ _ _ hs, if_neg (by omega), if_neg (by omega), if_pos rfl]
  · exact ((hL.far hx hy _ _ (by show sb < sb + 1; omega)).far hx hy _ _ (by show sb < sb + 1; omega)).far hx hy _ _ (by show sb < sb + 1; omega)

/-- the merging loop's state -/
def McI (w : World) (sb m S j b5 : Nat) (v0 v1 v2 : Value) (x5 y5 xn : Option Addr) (d5 e5 cn : Nat) (t : Vs) (ns : List Nat) (K : List (Option Vs)) (q : Nat) (wq : World) : Prop :=
  ∃ (ns' : List Nat) (K' : List (Option Vs)) (cs' : Array Value), ns.drop q = ns' ∧ q ≤ ns.length ∧ goV t ns' K' = goV t ns K ∧ K'.length = m ∧ (∀ i s, K'.getD i none = some s → Sok S s) ∧ Ks wq (sb + 1) sb m (j + 1) K' cs' ∧ Row wq w.heap.size #[v0, v1, v2] 39 ∧ Row wq b5 #[.bool true, .slice x5 t.stack.length d5, .slice y5 t.slots.length e5] 79 ∧ Lt wq x5 y5 t.stack.length d5 t.slots.length e5 t ∧ Ints wq xn ns.length cn (ns.map Int.ofNat) ∧ Below w.heap.size w wq ∧ b5 + 1 + 1 ≤ wq.heap.size

/-- .. behind a place at which the state was laid -/
theorem McI.lay {w wq : World} {sb m S j b5 d5 e5 cn q n0 : Nat} {v0 v1 v2 : Value} {x5 y5 xn : Option Addr} {t : Vs} {ns ns' : List Nat} {K K' K'' : List (Option Vs)} {cs' : Array Value} (hd : ns.drop q = n0 :: ns') (hg : goV t ns' K'' = goV t ns K) (hl : K''.length = m) (hso : ∀ i s, K''.getD i none = some s → Sok S s) (hK : Ks wq (sb + 1) sb m (j + 1) K' cs') (hR : Row wq w.heap.size #[v0, v1, v2] 39) (hT : Row wq b5 #[.bool true, .slice x5 t.stack.length d5, .slice y5 t.slots.length e5] 79) (hL : Lt wq x5 y5 t.stack.length d5 t.slots.length e5 t) (hI : Ints wq xn ns.length cn (ns.map Int.ofNat)) (hB : Below w.heap.size w wq) (hz : b5 + 1 + 1 ≤ wq.heap.size)
    (hn : n0 < m) (hx : ∀ ad, x5 = some ad → sb + 1 ≤ ad.block) (hy : ∀ ad, y5 = some ad → sb + 1 ≤ ad.block) (hxn : ∀ ad, xn = some ad → b5 + 1 + 1 ≤ ad.block) (hsb : sb + 1 ≤ b5) (hw : w.heap.size < sb) (h1 : K''.getD n0 none = some t) (h2 : ∀ i, i ≠ n0 → K''.getD i none = K'.getD i none) :
    McI w sb m S j b5 v0 v1 v2 x5 y5 xn d5 e5 cn t ns K (q + 1) (put3 wq sb (n0 * 3) (.bool true) (.slice x5 t.stack.length d5) (.slice y5 t.slots.length e5)) := by
  obtain ⟨cs'', hK''⟩ := hK.lay n0 hn hL hx hy K'' h1 h2
  have hql : q < ns.length := by
    have := congrArg List.length hd
    simp at this
    omega
  refine ⟨ns', K'', cs'', ?_, hql, hg, hl, hso, hK'', ?_, ?_, ?_, ?_, ?_, ?_⟩
  · have := congrArg List.tail hd
    simpa using this
  · exact ((hR.setFar (p := ⟨sb, n0 * 3, none⟩) (by show w.heap.size ≠ sb; omega) _).setFar (p := ⟨sb, n0 * 3 + 1, none⟩) (by show w.heap.size ≠ sb; omega) _).setFar (p := ⟨sb, n0 * 3 + 2, none⟩) (by show w.heap.size ≠ sb; omega) _
  · exact ((hT.setFar (p := ⟨sb, n0 * 3, none⟩) (by show b5 ≠ sb; omega) _).setFar (p := ⟨sb, n0 * 3 + 1, none⟩) (by show b5 ≠ sb; omega) _).setFar (p := ⟨sb, n0 * 3 + 2, none⟩) (by show b5 ≠ sb; omega) _
  · exact ((hL.far hx hy _ _ (by show sb < sb + 1; omega)).far hx hy _ _ (by show sb < sb + 1; omega)).far hx hy _ _ (by show sb < sb + 1; omega)
  · exact ((hI.far hxn _ _ (by show sb < b5 + 1 + 1; omega)).far hxn _ _ (by show sb < b5 + 1 + 1; omega)).far hxn _ _ (by show sb < b5 + 1 + 1; omega)
  · exact ((hB.setCell (p := ⟨sb, n0 * 3, none⟩) (by show w.heap.size ≤ sb; omega) _).setCell (p := ⟨sb, n0 * 3 + 1, none⟩) (by show w.heap.size ≤ sb; omega) _).setCell (p := ⟨sb, n0 * 3 + 2, none⟩) (by show w.heap.size ≤ sb; omega) _
  · simp [put3]; omega

theorem set_all {K : List (Option Vs)} {n : Nat} {t : Vs} (Q : Vs → Prop) (ht : Q t) (h : ∀ i s, K.getD i none = some s → Q s) : ∀ i s, (K.set n (some t)).getD i none = some s → Q s := by
  intro i s hj
  by_cases e : n = i
  · subst e
    by_cases hn : n < K.length
    · rw [List.getD, List.getElem?_set_self hn] at hj
      simp only [Option.getD_some, Option.some.injEq] at hj
      exact hj ▸ ht
    · rw [List.getD, List.getElem?_eq_none (by simp; omega)] at hj
      cases hj
  · rw [List.getD, List.getElem?_set_ne e] at hj
    exact h i s hj

theorem head_end {ns : List Nat} {m q : Nat} (hq : q < ns.length) (ht : ∀ x ∈ ns.tail, x < m) (hm : ∀ x ∈ ns, x ≤ m) (hge : m ≤ ns[q]) : q = 0 ∧ ∃ ns', ns = m :: ns' := by
  cases ns with
  | nil => simp at hq
  | cons n0 ns' =>
    cases q with
    | zero =>
      have h1 := hm n0 (by simp)
      simp only [List.getElem_cons_zero] at hge
      exact ⟨rfl, ns', by rw [show n0 = m by omega]⟩
    | succ q' =>
      simp only [List.getElem_cons_succ] at hge
      have h1 := ht _ (List.getElem_mem (l := ns') (n := q') (by simpa using hq))
      omega

set_option maxRecDepth 100000 in
set_option maxHeartbeats 6400000 in
theorem sVerify_any (a b : Option Addr) (n c m d : Nat) (s : Int) (P : List Vl) (I : List Is1) (w : World) (hP : Vls w a n c P) (hI : Iss w b m d I) :
    Calls Tryz.prog 20 #[.agg #[.slice a n c, .int .i64 s, .slice b m d]] w fun e w' => VfA w (verR P s I) e w' := by
  have hms := hI.small
  have hml := hI.len
  have B0 := (Below.refl w.heap.size w).alloc (Nat.le_refl _) (.cells #[.slice a n c, .int .i64 s, .slice b m d] 39)
  have HS := hide (l5shape_any a b n c m d s P I _ (hP.below B0 (Nat.le_refl _)) (hI.below B0 (Nat.le_refl _)))
  have RC := Row.new w #[.slice a n c, .int .i64 s, .slice b m d] 39
  obtain ⟨q0, q1, q2⟩ := rowC RC
  have hwl := RC.lt
  cases hsh : shapB P s I with
  | false =>
    have HX := hide (show verR P s I = (0, 1) by unfold verR; rw [if_pos hsh])
    rw [hsh] at HS
    clear hsh hml
    go_enter Tryz.func20, Tryz.ntmps20
    go_wp2_with fail
    refine (unhide HS).mono ?_
    rintro e w1 ⟨rfl, hb1⟩
    go_wp2_with fail
    exact bodyPost_ret (v := .tuple #[.int .i64 0, .int .i64 1]) (by simp [results, Tryz.results20, go_sem]) rfl ⟨by rw [unhide HX], B0.trans (hb1.mono B0.size)⟩
  | true =>
    have HN := hide (shapB_nums hsh)
    have HSh := hide hsh
    rw [hsh] at HS
    by_cases hm0 : m = 0
    · have hI0 : I = [] := List.eq_nil_of_length_eq_zero (by omega)
      have HX := hide (show verR P s I = (0, 8) by unfold verR; rw [if_neg (by rw [hsh]; decide), if_pos hI0])
      subst hm0
      clear hsh hml hI0
      go_enter Tryz.func20, Tryz.ntmps20
      go_wp2_with fail
      refine (unhide HS).mono ?_
      rintro e w1 ⟨rfl, hb1⟩
      have t2 := (hb1.cell (p := ⟨w.heap.size, 2, none⟩) hwl).trans q2
      go_wp2_with fail
      exact bodyPost_ret (v := .tuple #[.int .i64 0, .int .i64 8]) (by simp [results, Tryz.results20, go_sem]) rfl ⟨by rw [unhide HX], B0.trans (hb1.mono B0.size)⟩
    · have hm1 : 0 < m := by omega
      have hs0 : 0 ≤ s := (unhide HN).2.2.1
      obtain ⟨S, rfl⟩ := Int.eq_ofNat_of_zero_le hs0
      have em0 : ((m : Int) == 0) = false := beq_eq_false_iff_ne.2 (by omega)
      have hSn : S ≤ 600 := by have := (unhide HN).2.2.2; omega
      have HX := hide (show verR P S I = runV (P.map Vl.kind) S I m 0 ((List.replicate m none).set 0 (some (vs0 S))) 0 by
        unfold verR
        rw [if_neg (by rw [hsh]; decide), if_neg (by intro e; rw [e] at hml; simp at hml; omega), Int.toNat_natCast, hml]
        rfl)
      have mk1 : ∀ w', (Instr.makeSlice 76 (.int .i64 (m : Int)) (.int .i64 (m : Int))).run Tryz.prog w' = .ok (.slice (some ⟨w'.heap.size, 0, none⟩) m m) (mkS w' m) := fun w' => make_states m (by omega) w'
      have mk2 : ∀ w', (Instr.makeSlice 77 (.int .i64 (S : Int)) (.int .i64 (S : Int))).run Tryz.prog w' = .ok (.slice (some ⟨w'.heap.size, 0, none⟩) S S) (w'.alloc (.cells (List.replicate S (.int .i64 0)).toArray 3)) := fun w' => by
        rw [← made_list]
        exact run_make_row' 77 3 (.int .i64 0) 8 Tryz.underlying77 infoI rfl .i64 .i64 S (by omega) (by omega) w'
      have im : (0 : Int) < (m : Int) := by omega
      have Hml := hide hml
      clear hsh hml hm0
      go_enter Tryz.func20, Tryz.ntmps20
      go_wp2_with fail
      refine (unhide HS).mono ?_
      rintro e w1 ⟨rfl, hb1⟩
      have RC1 := RC.after hb1 (Nat.le_refl _)
      have B1 := B0.trans (hb1.mono B0.size)
      have RC2 : Row (mkS w1 m) w.heap.size #[.slice a n c, .int .i64 S, .slice b m d] 39 := RC1.alloc (.cells (zs m) 79)
      have RS2 : Row (mkS w1 m) w1.heap.size (zs m) 79 := Row.new w1 (zs m) 79
      have B2 : Below w.heap.size w (mkS w1 m) := B1.alloc B1.size (.cells (zs m) 79)
      have hs2 : w1.heap.size + 1 ≤ (mkS w1 m).heap.size := by simp [mkS]
      have hw1 : w.heap.size < w1.heap.size := RC1.lt
      have RC3 := RC2.alloc (.cells (Array.replicate S (.int .i64 0)) 3)
      have RS3 := RS2.alloc (.cells (Array.replicate S (.int .i64 0)) 3)
      have B3 := B2.alloc B2.size (.cells (Array.replicate S (.int .i64 0)) 3)
      obtain ⟨t0, t1, t2⟩ := rowC RC1
      obtain ⟨u0, u1, u2⟩ := rowC RC2
      obtain ⟨v0, v1, v2⟩ := rowC RC3
      obtain ⟨z0, z1, z2⟩ := RS3.cells3 0 _ _ _ (zs_at m 0 hm1).1 (zs_at m 0 hm1).2.1 (zs_at m 0 hm1).2.2
      simp only [Nat.zero_mul, Nat.zero_add] at z0 z1 z2
      have g0 := RS3.frozen 0
      have g1 := RS3.frozen 1
      have g2 := RS3.frozen 2
      go_wp2_with fail
      have Hst : Hid (VsI w w1.heap.size m S (.slice a n c) (.int .i64 S) (.slice b m d) (P.map Vl.kind) I (verR P S I) 0 0 (put3 ((mkS w1 m).alloc (.cells (Array.replicate S (.int .i64 0)) 3)) w1.heap.size (0 * 3) (.bool true) (.slice none 0 0) (.slice (some ⟨(mkS w1 m).heap.size, 0, none⟩) S S))) := hide ⟨_, _, Nat.zero_le _, by rw [Nat.sub_zero]; exact (unhide HX).symm, start_ks hm1 hSn RS2, by simp, start_ok m S hm1, by omega, ((RC3.setFar (p := ⟨w1.heap.size, 0, none⟩) (by show w.heap.size ≠ w1.heap.size; omega) _).setFar (p := ⟨w1.heap.size, 1, none⟩) (by show w.heap.size ≠ w1.heap.size; omega) _).setFar (p := ⟨w1.heap.size, 2, none⟩) (by show w.heap.size ≠ w1.heap.size; omega) _, ((B3.setCell (p := ⟨w1.heap.size, 0, none⟩) (by show w.heap.size ≤ w1.heap.size; omega) _).setCell (p := ⟨w1.heap.size, 1, none⟩) (by show w.heap.size ≤ w1.heap.size; omega) _).setCell (p := ⟨w1.heap.size, 2, none⟩) (by show w.heap.size ≤ w1.heap.size; omega) _, by simp [put3]; omega⟩
      have hpk : ∀ x ∈ P.map Vl.kind, 1 ≤ x := shapB_kinds (unhide HSh)
      have Hvm := hide (fun j => fun (h : j < m) => shapB_ins (unhide HSh) j (by rw [unhide Hml]; exact h))
      have Hw1 := hide hw1
      clear RC1 RC2 RC3 RS2 RS3 B1 B2 B3 t0 t1 t2 u0 u1 u2 v0 v1 v2 z0 z1 z2 g0 g1 g2 hs2 hw1 mk1 mk2 q0 q1 q2 hb1 RC HS
      have HB1 : Hid (w.heap.size < w1.heap.size) := Hw1
      generalize w1.heap.size = sb at Hst HB1 ⊢
      go_loopw [5, 37] (fun bv i wr => ∃ (j bd : Nat), bv = .int .i64 bd ∧ i = .int .i64 j ∧ Hid (VsI w sb m S (.slice a n c) (.int .i64 S) (.slice b m d) (P.map Vl.kind) I (verR P S I) j bd wr)) (fun _ i _ => m - (RowKit.intOf i).toNat)
      case atStart => exact ⟨0, 0, rfl, rfl, Hst⟩
      case round =>
        obtain ⟨j, bd, rfl, rfl, HV⟩ := hrel
        obtain ⟨K, cs, hj, hrun, hK, hKl, hKs, hbd, hR, hB, hlo⟩ := unhide HV
        obtain ⟨c0, c1, c2⟩ := rowC hR
        clear Hst HV
        by_cases hjm : j < m
        · have ij : (j : Int) < (m : Int) := by omega
          obtain ⟨r, hr⟩ : ∃ r, m - j = r + 1 := ⟨m - j - 1, by omega⟩
          rw [hr] at hrun
          have Hrun := hide hrun
          have Hr := hide hr
          have Hjm := hide hjm
          have hc := hK.loc j (Nat.le_refl _) hjm
          cases hs : K.getD j none with
          | none =>
            rw [hs] at hc
            obtain ⟨x1, n1, d1, x2, n2, d2, a0, a1, a2⟩ := hc
            obtain ⟨z0, z1, z2⟩ := hK.row.cells3 j _ _ _ a0 a1 a2
            have HR := hide (show verR P S I = (0, 2) by rw [← unhide Hrun, runV_dead _ _ _ _ _ _ _ hs])
            clear hrun hr hs a0 a1 a2 hKl hj
            go_wp2_with fail
            exact bodyPost_ret (v := .tuple #[.int .i64 0, .int .i64 2]) (by simp [results, Tryz.results20, go_sem]) rfl ⟨by rw [unhide HR], hB.alloc hB.size _⟩
          | some s =>
            rw [hs] at hc
            obtain ⟨x, cx, y, dy, a0, a1, a2, hL, hax, hay⟩ := hc
            obtain ⟨z0, z1, z2⟩ := hK.row.cells3 j _ _ _ a0 a1 a2
            obtain ⟨ho1, ho2, ho3, ho4⟩ := hKs j s hs
            obtain ⟨hop, harg⟩ := unhide Hvm j hjm
            have BA := (Below.refl wr.heap.size wr).alloc (Nat.le_refl _) (.cells #[.bool true, .slice x s.stack.length cx, .slice y s.slots.length dy] 79)
            have B4 := hB.alloc hB.size (.cells #[.bool true, .slice x s.stack.length cx, .slice y s.slots.length dy] 79)
            have HSP := hide (sStep_any a b n c m d S true P I j s x y s.stack.length cx s.slots.length dy _ (hP.below B4 (Nat.le_refl _)) (hI.below B4 (Nat.le_refl _)) hjm hP.small hop harg (hL.below BA (Nat.le_refl _)) ho2 hSn (by omega) ho3 hpk ho4)
            have RS4 := Row.new wr #[.bool true, .slice x s.stack.length cx, .slice y s.slots.length dy] 79
            have HK4 := hide (hK.below BA (Nat.le_refl _))
            have HR4 := hide (hR.after BA (Nat.le_refl _))
            obtain ⟨e0, e1, e2⟩ := rowC (unhide HR4)
            obtain ⟨w0, w1', w2'⟩ := rowC RS4
            have HRS4 := hide RS4
            have HB4 := hide B4
            have Hop := hide (And.intro hop harg)
            have HKs := hide hKs
            have HKl := hide hKl
            have Hs := hide hs
            have HSok := hide (And.intro ho1 (And.intro ho2 (And.intro ho3 ho4)))
            have hsl2 : s.stack.length ≤ 200 := by omega
            have Hbd := hide hbd
            have Hlo := hide (show sb + 1 ≤ wr.heap.size from hlo)
            clear hrun hr hs a0 a1 a2 hKl hj ho1 ho2 ho3 ho4 hop harg BA B4 RS4 hL hax hay hK hR hKs hB hbd hlo
            go_wp2_with fail
            refine (unhide HSP).mono ?_
            rintro e w5 ⟨v5, rfl, hb5, hfit, kq, x5, n5, d5, y5, m5, e5, rfl⟩
            have HK5 := hide ((unhide HK4).below hb5 (Nat.le_refl _))
            have HR5 := hide ((unhide HR4).after hb5 (Nat.le_refl _))
            have HRS5 := hide ((unhide HRS4).after hb5 (Nat.le_refl _))
            have HB5 := hide ((unhide HB4).trans (hb5.mono (unhide HB4).size))
            obtain ⟨r5, HR5e⟩ : ∃ r5, r5 = stepV (P.map Vl.kind) S m j (I.getD j ⟨0, 0⟩) s := ⟨_, rfl⟩
            rw [← HR5e] at hfit ⊢
            have Hr5 := hide HR5e
            clear HR5e
            have Hfit := hide hfit
            clear hfit
            by_cases h5 : r5.1 = 0
            · obtain ⟨x6, d6, y6, e6, hv6, hL6, hx6, hy6⟩ := unhide Hfit h5
              simp only [Value.agg.injEq, Array.mk.injEq, List.cons.injEq, Value.bool.injEq, Value.slice.injEq, and_true] at hv6
              obtain ⟨rfl, ⟨rfl, rfl, rfl⟩, rfl, rfl, rfl⟩ := hv6
              have HL6 := hide hL6
              have Hxy := hide (And.intro hx6 hy6)
              have HSt := hide (show Sok S r5.2 by rw [unhide Hr5]; exact stepV_ok hpk (unhide Hop).1.1 (unhide Hop).1.2 (unhide HSok) (by rw [← unhide Hr5]; exact h5))
              have Hrun2 := hide (show verR P S I = if (goV r5.2 (nextV j (I.getD j ⟨0, 0⟩)) K).1 ≠ 0 then (0, (goV r5.2 (nextV j (I.getD j ⟨0, 0⟩)) K).1) else runV (P.map Vl.kind) S I r (j + 1) (goV r5.2 (nextV j (I.getD j ⟨0, 0⟩)) K).2 (max bd (max s.stack.length r5.2.stack.length)) by
                rw [← unhide Hrun, runV_step _ _ _ _ _ _ _ s (unhide Hs), unhide Hml, ← unhide Hr5, if_neg (by simpa using h5)])
              have Hrng := hide (show rangeV P.length S m j (I.getD j ⟨0, 0⟩) = true by
                cases hg : rangeV P.length S m j (I.getD j ⟨0, 0⟩) with
                | true => rfl
                | false =>
                  have : r5 = (3, s) := by rw [unhide Hr5]; unfold stepV; rw [List.length_map, if_pos hg]
                  rw [this] at h5
                  simp at h5)
              rw [h5]
              clear h5 hL6 hx6 hy6 Hfit HSP
              obtain ⟨t, HTe⟩ : ∃ t, t = r5.2 := ⟨_, rfl⟩
              rw [← HTe] at HL6 HSt Hrun2 ⊢
              have hth : t.stack.length ≤ 100 := (unhide HSt).1
              clear HTe
              have BT := (Below.refl w5.heap.size w5).alloc (Nat.le_refl _) (.cells #[.bool true, .slice x5 t.stack.length d5, .slice y5 t.slots.length e5] 79)
              have HK6 := hide ((unhide HK5).below BT (Nat.le_refl _))
              have HR6 := hide ((unhide HR5).after BT (Nat.le_refl _))
              have HRS6 := hide ((unhide HRS5).after BT (Nat.le_refl _))
              have HRT6 := hide (Row.new w5 #[.bool true, .slice x5 t.stack.length d5, .slice y5 t.slots.length e5] 79)
              have HB6 := hide ((unhide HB5).trans (BT.mono (unhide HB5).size))
              have HL6' := hide ((unhide HL6).below BT (Nat.le_refl _))
              have Hlo6 := hide (show sb + 1 ≤ w5.heap.size from Nat.le_trans (unhide Hlo) (Nat.le_trans (by simp) hb5.size))
              obtain ⟨e0', e1', e2'⟩ := rowC (unhide HR6)
              obtain ⟨w0', w1'', w2''⟩ := rowC (unhide HRS6)
              obtain ⟨p0, p1, p2⟩ := rowC (unhide HRT6)
              have Hw5 := hide (show wr.heap.size < w5.heap.size from Nat.lt_of_lt_of_le (by simp) hb5.size)
              clear BT hb5
              go_wp2_with fail
              have BH := (Below.refl (w5.alloc (.cells #[.bool true, .slice x5 t.stack.length d5, .slice y5 t.slots.length e5] 79)).heap.size (w5.alloc (.cells #[.bool true, .slice x5 t.stack.length d5, .slice y5 t.slots.length e5] 79))).alloc (Nat.le_refl _) (.cells #[.int .i64 s.stack.length, .int .i64 t.stack.length] 3)
              have HK7 := hide ((unhide HK6).below BH (Nat.le_refl _))
              have HR7 := hide ((unhide HR6).after BH (Nat.le_refl _))
              have HRT7 := hide ((unhide HRT6).after BH (Nat.le_refl _))
              have HB7 := hide ((unhide HB6).trans (BH.mono (unhide HB6).size))
              have HL7 := hide ((unhide HL6').below BH (Nat.le_refl _))
              have RH := Row.new (w5.alloc (.cells #[.bool true, .slice x5 t.stack.length d5, .slice y5 t.slots.length e5] 79)) #[.int .i64 (s.stack.length : Int), .int .i64 (t.stack.length : Int)] 3
              rw [World.size_alloc] at RH
              obtain ⟨k0, k1⟩ := rowS RH
              obtain ⟨e07, e17, e27⟩ := rowC (unhide HR7)
              obtain ⟨p07, p17, p27⟩ := rowC (unhide HRT7)
              have hc7 := (unhide HK7).loc j (Nat.le_refl _) (unhide Hjm)
              rw [unhide Hs] at hc7
              obtain ⟨x7, d7, y7, e7, a07, a17, a27, _⟩ := hc7
              obtain ⟨z07, z17, z27⟩ := (unhide HK7).row.cells3 j _ _ _ a07 a17 a27
              have zf0 := (unhide HK7).row.frozen (j * 3)
              have zf1 := (unhide HK7).row.frozen (j * 3 + 1)
              have zf2 := (unhide HK7).row.frozen (j * 3 + 2)
              have Hsz7 := hide (show w5.heap.size + 1 + 1 = ((w5.alloc (.cells #[.bool true, .slice x5 t.stack.length d5, .slice y5 t.slots.length e5] 79)).alloc (.cells #[.int .i64 s.stack.length, .int .i64 t.stack.length] 3)).heap.size by simp)
              clear BH RH HK4 HK5 HK6 HR4 HR5 HR6 HRS4 HRS5 HRS6 HRT6 HB4 HB5 HB6 HL6 HL6' a07 a17 a27 e0 e1 e2 e0' e1' e2' w0 w1' w2' w0' w1'' w2'' p0 p1 p2 z0 z1 z2 c0 c1 c2
              generalize ((w5.alloc (.cells #[.bool true, .slice x5 t.stack.length d5, .slice y5 t.slots.length e5] 79)).alloc (.cells #[.int .i64 s.stack.length, .int .i64 t.stack.length] 3)) = w7 at HK7 HR7 HRT7 HB7 HL7 k0 k1 e07 e17 e27 p07 p17 p27 z07 z17 z27 zf0 zf1 zf2 Hsz7 ⊢
              have hbd := unhide Hbd
              go_loop [5, 65] (fun bv i => (i = .int .i64 0 ∧ bv = .int .i64 (bd : Int)) ∨ (i = .int .i64 1 ∧ bv = .int .i64 ((max bd s.stack.length : Nat) : Int)) ∨ (i = .int .i64 2 ∧ bv = .int .i64 ((max bd (max s.stack.length t.stack.length) : Nat) : Int))) (fun _ i => 2 - (RowKit.intOf i).toNat)
              case atStart => exact .inl ⟨rfl, rfl⟩
              case round =>
                rcases hrel with ⟨rfl, rfl⟩ | ⟨rfl, rfl⟩ | ⟨rfl, rfl⟩
                · by_cases hq : bd < s.stack.length
                  · have iq : (bd : Int) < (s.stack.length : Int) := by omega
                    have hmx : max bd s.stack.length = s.stack.length := by omega
                    have Hmx := hide hmx
                    clear hmx hq
                    go_wp2_with fail
                    go_round
                    case rel => exact .inr (.inl ⟨by go_num, by rw [unhide Hmx]⟩)
                    case measure => simp [RowKit.intOf]
                  · have iq : ¬ ((bd : Int) < (s.stack.length : Int)) := by omega
                    have hmx : max bd s.stack.length = bd := by omega
                    have Hmx := hide hmx
                    clear hmx hq
                    go_wp2_with fail
                    go_round
                    case rel => exact .inr (.inl ⟨by go_num, by rw [unhide Hmx]⟩)
                    case measure => simp [RowKit.intOf]
                · have Hm3 := hide (show max bd (max s.stack.length t.stack.length) = max (max bd s.stack.length) t.stack.length by omega)
                  generalize max bd s.stack.length = b1 at Hm3 ⊢
                  by_cases hq : b1 < t.stack.length
                  · have iq : (b1 : Int) < (t.stack.length : Int) := by omega
                    have Hmx := hide (show max b1 t.stack.length = t.stack.length by omega)
                    clear hq
                    go_wp2_with fail
                    go_round
                    case rel => exact .inr (.inr ⟨by go_num, by rw [unhide Hm3, unhide Hmx]⟩)
                    case measure => simp [RowKit.intOf]
                  · have iq : ¬ ((b1 : Int) < (t.stack.length : Int)) := by omega
                    have Hmx := hide (show max b1 t.stack.length = b1 by omega)
                    clear hq
                    go_wp2_with fail
                    go_round
                    case rel => exact .inr (.inr ⟨by go_num, by rw [unhide Hm3, unhide Hmx]⟩)
                    case measure => simp [RowKit.intOf]
                · have Hb2 := hide (show max bd (max s.stack.length t.stack.length) ≤ 100 by have := (unhide HSok).1; omega)
                  have Hrun3 := hide (show verR P S I = if (goV t (nextV j (I.getD j ⟨0, 0⟩)) K).1 ≠ 0 then (0, (goV t (nextV j (I.getD j ⟨0, 0⟩)) K).1) else runV (P.map Vl.kind) S I r (j + 1) (goV t (nextV j (I.getD j ⟨0, 0⟩)) K).2 (max bd (max s.stack.length t.stack.length)) from unhide Hrun2)
                  generalize max bd (max s.stack.length t.stack.length) = bd2 at Hb2 Hrun3 ⊢
                  clear k0 k1 hbd
                  have hsbw : w.heap.size ≠ sb := by have := unhide HB1; omega
                  have HK8 := hide (show Ks (((w7.setCell ⟨sb, j * 3, none⟩ (.bool false)).setCell ⟨sb, j * 3 + 1, none⟩ (.slice none 0 0)).setCell ⟨sb, j * 3 + 2, none⟩ (.slice none 0 0)) (sb + 1) sb m (j + 1) K _ from (unhide HK7).put j (unhide Hjm) (.bool false) (.slice none 0 0) (.slice none 0 0) K (j + 1) (Nat.le_succ _) (fun i _ _ _ => rfl) (fun h => absurd h (by omega)))
                  have HR8 := hide (show Row (((w7.setCell ⟨sb, j * 3, none⟩ (.bool false)).setCell ⟨sb, j * 3 + 1, none⟩ (.slice none 0 0)).setCell ⟨sb, j * 3 + 2, none⟩ (.slice none 0 0)) w.heap.size #[.slice a n c, .int .i64 S, .slice b m d] 39 from (((unhide HR7).setFar (p := ⟨sb, j * 3, none⟩) hsbw _).setFar (p := ⟨sb, j * 3 + 1, none⟩) hsbw _).setFar (p := ⟨sb, j * 3 + 2, none⟩) hsbw _)
                  have hsb5 : w5.heap.size ≠ sb := by have := unhide Hlo6; omega
                  have HRT8 := hide (show Row (((w7.setCell ⟨sb, j * 3, none⟩ (.bool false)).setCell ⟨sb, j * 3 + 1, none⟩ (.slice none 0 0)).setCell ⟨sb, j * 3 + 2, none⟩ (.slice none 0 0)) w5.heap.size #[.bool true, .slice x5 t.stack.length d5, .slice y5 t.slots.length e5] 79 from (((unhide HRT7).setFar (p := ⟨sb, j * 3, none⟩) hsb5 _).setFar (p := ⟨sb, j * 3 + 1, none⟩) hsb5 _).setFar (p := ⟨sb, j * 3 + 2, none⟩) hsb5 _)
                  have hwsb : w.heap.size ≤ sb := by have := unhide HB1; omega
                  have HB8 := hide (show Below w.heap.size w (((w7.setCell ⟨sb, j * 3, none⟩ (.bool false)).setCell ⟨sb, j * 3 + 1, none⟩ (.slice none 0 0)).setCell ⟨sb, j * 3 + 2, none⟩ (.slice none 0 0)) from (((unhide HB7).setCell (p := ⟨sb, j * 3, none⟩) hwsb _).setCell (p := ⟨sb, j * 3 + 1, none⟩) hwsb _).setCell (p := ⟨sb, j * 3 + 2, none⟩) hwsb _)
                  have hx8 : (∀ ad, x5 = some ad → sb + 1 ≤ ad.block) ∧ ∀ ad, y5 = some ad → sb + 1 ≤ ad.block := ⟨fun ad e => Nat.le_trans (unhide Hlo) (Nat.le_trans (by simp) ((unhide Hxy).1 ad e)), fun ad e => Nat.le_trans (unhide Hlo) (Nat.le_trans (by simp) ((unhide Hxy).2 ad e))⟩
                  have Hx8 := hide hx8
                  have HL8 := hide (show Lt (((w7.setCell ⟨sb, j * 3, none⟩ (.bool false)).setCell ⟨sb, j * 3 + 1, none⟩ (.slice none 0 0)).setCell ⟨sb, j * 3 + 2, none⟩ (.slice none 0 0)) x5 y5 t.stack.length d5 t.slots.length e5 t from (((unhide HL7).far hx8.1 hx8.2 ⟨sb, j * 3, none⟩ _ (Nat.lt_succ_self _)).far hx8.1 hx8.2 ⟨sb, j * 3 + 1, none⟩ _ (Nat.lt_succ_self _)).far hx8.1 hx8.2 ⟨sb, j * 3 + 2, none⟩ _ (Nat.lt_succ_self _))
                  have Hsz8 := hide (show w5.heap.size + 1 + 1 = (((w7.setCell ⟨sb, j * 3, none⟩ (.bool false)).setCell ⟨sb, j * 3 + 1, none⟩ (.slice none 0 0)).setCell ⟨sb, j * 3 + 2, none⟩ (.slice none 0 0)).heap.size by rw [unhide Hsz7]; simp)
                  obtain ⟨e08, e18, e28⟩ := rowC (unhide HR8)
                  have HNX := hide (sNext_any a b n c m d S I j _ (hI.below (unhide HB8) (Nat.le_refl _)) (unhide Hjm) (unhide Hop).1 (unhide Hop).2)
                  have Hnt := hide (next_tail (unhide Hrng) (unhide Hjm) (unhide Hop).2)
                  have Hnm := hide (range_next (unhide Hrng) (unhide Hjm) (unhide Hop).2)
                  generalize nextV j (I.getD j ⟨0, 0⟩) = ns at HNX Hnt Hnm Hrun3
                  clear hx8
                  go_wp2_with fail
                  refine (unhide HNX).mono ?_
                  rintro e w9 ⟨xn, cn, rfl, in9, hxn, hb9⟩
                  have HK9 := hide ((unhide HK8).below hb9 (Nat.le_refl _))
                  have HR9 := hide ((unhide HR8).after hb9 (Nat.le_refl _))
                  have HRT9 := hide ((unhide HRT8).after hb9 (Nat.le_refl _))
                  have HB9 := hide ((unhide HB8).trans (hb9.mono (unhide HB8).size))
                  have HL9 := hide ((unhide HL8).below hb9 (Nat.le_refl _))
                  have Hin := hide in9
                  have Hxn := hide hxn
                  have hnl := in9.small
                  have Hsz9 := hide (show w5.heap.size + 1 + 1 ≤ w9.heap.size by rw [unhide Hsz8]; exact hb9.size)
                  have Hxl := hide (show ∀ ad, xn = some ad → w5.heap.size + 1 + 1 ≤ ad.block from fun ad e => by rw [unhide Hsz8]; exact hxn ad e)
                  obtain ⟨e09, e19, e29⟩ := rowC (unhide HR9)
                  obtain ⟨p09, p19, p29⟩ := rowC (unhide HRT9)
                  clear in9 hxn hb9 HK8 HR8 HRT8 HB8 HL8 HNX e08 e18 e28 e07 e17 e27 p07 p17 p27 z07 z17 z27 zf0 zf1 zf2 HK7 HR7 HRT7 HB7 HL7 Hsz7 Hsz8 Hrun2 Hxn
                  go_wp2_with fail
                  go_loop [83] (fun i => ∃ q : Nat, i = .int .i64 q ∧ q ≤ ns.length ∧ Hid (∀ i, (h : i < ns.length) → i < q → ns[i] < m)) (fun i => ns.length - (RowKit.intOf i).toNat)
                  case atStart => exact ⟨0, rfl, Nat.zero_le _, hide (fun i _ h => absurd h (by omega))⟩
                  case round =>
                    obtain ⟨q, rfl, hq, HA⟩ := hrel
                    by_cases hql : q < ns.length
                    · obtain ⟨bx, ox, hx, hbl, cxq⟩ := (unhide Hin).cells q (by simpa using hql)
                      have cxq' : w9.cell? ⟨bx, ox + q, none⟩ = some (.int .i64 ((ns[q] : Nat) : Int)) := by rw [cxq]; simp
                      have iq : (q : Int) < (ns.length : Int) := by omega
                      subst hx
                      have Hql := hide hql
                      by_cases hge : m ≤ ns[q]
                      · obtain ⟨hq0, ns', hns⟩ := head_end hql (unhide Hnt).2 (unhide Hnm) hge
                        subst hq0
                        have HR := hide (show verR P S I = (0, 8) by
                          rw [unhide Hrun3, hns, goV_end t m ns' K (unhide HKl).symm]
                          rfl)
                        rw [Nat.add_zero] at cxq'
                        clear hns
                        have ige : (m : Int) ≤ ((ns[0] : Nat) : Int) := by omega
                        generalize ns[0] = nq at cxq' ige
                        clear hge hq hql cxq
                        go_wp2_with fail
                        exact bodyPost_ret (v := .tuple #[.int .i64 0, .int .i64 8]) (by simp [results, Tryz.results20, go_sem]) rfl ⟨by rw [unhide HR], unhide HB9⟩
                      · have ige : ¬ ((m : Int) ≤ ((ns[q] : Nat) : Int)) := by omega
                        have HA2 := hide (show ∀ i, (h : i < ns.length) → i < q + 1 → ns[i] < m from fun i h hi => by
                          by_cases e : i = q
                          · subst e; omega
                          · exact unhide HA i h (by omega))
                        generalize ns[q] = nq at cxq' ige
                        clear hge hq hql cxq
                        go_wp2_with fail
                        go_round
                        case rel => exact ⟨q + 1, by have := unhide Hql; go_num, unhide Hql, HA2⟩
                        case measure => have := unhide Hql; simp [RowKit.intOf]; omega
                    · have eq : ns.length = q := by omega
                      have Heq := hide eq
                      have niq : ¬ ((q : Int) < (ns.length : Int)) := by omega
                      have Hall := hide (show ∀ x ∈ ns, x < m from fun x hx => by
                        obtain ⟨i, hi, rfl⟩ := List.getElem_of_mem hx
                        exact unhide HA i hi (by omega))
                      clear hql hq eq HA
                      go_wp2_with fail
                      have HMc : Hid (McI w sb m S j w5.heap.size (.slice a n c) (.int .i64 S) (.slice b m d) x5 y5 xn d5 e5 cn t ns K 0 w9) := hide ⟨ns, K, _, rfl, Nat.zero_le _, rfl, unhide HKl, unhide HKs, unhide HK9, unhide HR9, unhide HRT9, unhide HL9, unhide Hin, unhide HB9, unhide Hsz9⟩
                      clear HK9 HR9 HRT9 HB9 HL9 Hin Hsz9 e09 e19 e29 p09 p19 p29
                      obtain ⟨wo, rfl⟩ : ∃ wo, wo = wr := ⟨_, rfl⟩
                      go_loopw [95] (fun i wq => ∃ q : Nat, i = .int .i64 q ∧ Hid (McI w sb m S j w5.heap.size (.slice a n c) (.int .i64 S) (.slice b m d) x5 y5 xn d5 e5 cn t ns K q wq)) (fun i _ => ns.length - (RowKit.intOf i).toNat)
                      case atStart => exact ⟨0, rfl, HMc⟩
                      case round =>
                        obtain ⟨q2, rfl, HM⟩ := hrel
                        obtain ⟨ns', K', cs', hd, hql, hg, hl, hso, hK, hR, hT, hL, hI9, hB, hz⟩ := unhide HM
                        clear HM HMc
                        cases ns' with
                        | nil =>
                          have eql : ns.length = q2 := by have := congrArg List.length hd; simp at this; omega
                          have Hgg := hide hg
                          have niq2 : ¬ ((q2 : Int) < (ns.length : Int)) := by omega
                          have Hfin := hide (show runV (P.map Vl.kind) S I (m - (j + 1)) (j + 1) K' bd2 = verR P S I by
                            rw [unhide Hrun3, ← hg]
                            show _ = if (0 : Int) ≠ 0 then _ else _
                            rw [if_neg (by decide)]
                            show _ = runV _ _ _ _ _ K' _
                            rw [show m - (j + 1) = r by have := unhide Hr; omega])
                          have Hl := hide hl
                          clear hd hql hg eql hl
                          go_wp2_with fail
                          go_roundw
                          case rel => exact ⟨j + 1, bd2, rfl, by have := unhide Hjm; go_num, hide ⟨K', cs', by have := unhide Hjm; omega, unhide Hfin, hK, unhide Hl, hso, unhide Hb2, hR, hB, by have := unhide Hlo6; omega⟩⟩
                          case measure => have := unhide Hjm; simp [RowKit.intOf]; omega
                        | cons n0 ns' =>
                          have hq2 : q2 < ns.length := by have := congrArg List.length hd; simp at this; omega
                          have hn0 : ns[q2] = n0 := by
                            have := congrArg (·[0]?) hd
                            simpa [List.getElem?_eq_getElem hq2] using this
                          have hmem : n0 ∈ ns := hn0 ▸ List.getElem_mem hq2
                          have hn0m : n0 < m := unhide Hall n0 hmem
                          have hn0j : j < n0 := (unhide Hnt).1 n0 hmem
                          obtain ⟨bx, ox, hx, hbl, cxq⟩ := hI9.cells q2 (by simpa using hq2)
                          have cxq' : wr.cell? ⟨bx, ox + q2, none⟩ = some (.int .i64 (n0 : Int)) := by rw [cxq]; simp [hn0]
                          have iq2 : (q2 : Int) < (ns.length : Int) := by omega
                          have in0 : (n0 : Int) < (m : Int) := by omega
                          obtain ⟨t0, t1, t2⟩ := rowC hT
                          have hne : ¬ n0 = K'.length := by rw [hl]; omega
                          have hsb5' : sb + 1 ≤ w5.heap.size := unhide Hlo6
                          have hwsb' : w.heap.size < sb := unhide HB1
                          have hc9 := hK.loc n0 hn0j hn0m
                          have zf0 := hK.row.frozen (n0 * 3)
                          have zf1 := hK.row.frozen (n0 * 3 + 1)
                          have zf2 := hK.row.frozen (n0 * 3 + 2)
                          have Hq2 := hide hq2
                          subst hx
                          cases hk : K'.getD n0 none with
                          | none =>
                            rw [hk] at hc9
                            obtain ⟨x1, n1, d1, x2, n2, d2, b0, b1, b2⟩ := hc9
                            obtain ⟨y0, y1, y2⟩ := hK.row.cells3 n0 _ _ _ b0 b1 b2
                            have HLay := hide (fun nq => McI.lay (wq := wr.drewN nq) hd ((goV_new t n0 ns' K' hne hk).symm.trans hg) (by rw [List.length_set]; exact hl) (set_all (Sok S) (unhide HSt) hso) (hK.below (below_drewM wr nq) (Nat.le_refl _)) (hR.after (below_drewM wr nq) (Nat.le_refl _)) (hT.after (below_drewM wr nq) (Nat.le_refl _)) (hL.below (below_drewM wr nq) (Nat.le_refl _)) (hI9.below (below_drewM wr nq) (Nat.le_refl _)) (hB.trans ((below_drewM wr nq).mono hB.size)) hz hn0m (unhide Hx8).1 (unhide Hx8).2 (unhide Hxl) hsb5' hwsb' (by rw [List.getD, List.getElem?_set_self (by rw [hl]; exact hn0m)]; rfl) (fun i hi => by rw [List.getD, List.getElem?_set_ne (fun e => hi e.symm)]; rfl))
                            clear hd hql hg hl hso hK hR hT hL hI9 hB hz hn0 hmem hn0m hn0j cxq hne hk hq2 b0 b1 b2
                            go_wp2_with fail
                            go_quiet (fail)
                            go_wp2_with fail
                            go_roundw
                            case rel => exact ⟨q2 + 1, by have := unhide Hq2; go_num, hide (unhide HLay nq)⟩
                            case measure => have := unhide Hq2; simp [RowKit.intOf]; omega
                          | some u =>
                            rw [hk] at hc9
                            obtain ⟨xu, du, yu, eu, b0, b1, b2, hLu, hxu, hyu⟩ := hc9
                            obtain ⟨y0, y1, y2⟩ := hK.row.cells3 n0 _ _ _ b0 b1 b2
                            have HE1 := hide (fun n9 => sSame_any xu x5 u.stack.length du t.stack.length d5 u.stack t.stack (wr.drewN n9) (hLu.st.below (below_drewM wr n9) (Nat.le_refl _)) (hL.st.below (below_drewM wr n9) (Nat.le_refl _)))
                            have HE2 := hide (fun n9 => sSame_any yu y5 u.slots.length eu t.slots.length e5 u.slots t.slots (wr.drewN n9) (hLu.sl.below (below_drewM wr n9) (Nat.le_refl _)) (hL.sl.below (below_drewM wr n9) (Nat.le_refl _)))
                            by_cases hut : u = t
                            · have HLay := hide (fun nq => McI.lay (wq := wr.drewN nq) hd ((goV_same t n0 ns' K' u hne hk hut).symm.trans hg) hl hso (hK.below (below_drewM wr nq) (Nat.le_refl _)) (hR.after (below_drewM wr nq) (Nat.le_refl _)) (hT.after (below_drewM wr nq) (Nat.le_refl _)) (hL.below (below_drewM wr nq) (Nat.le_refl _)) (hI9.below (below_drewM wr nq) (Nat.le_refl _)) (hB.trans ((below_drewM wr nq).mono hB.size)) hz hn0m (unhide Hx8).1 (unhide Hx8).2 (unhide Hxl) hsb5' hwsb' (by rw [hk, hut]) (fun i hi => rfl))
                              rw [decide_eq_true (show u.stack = t.stack by rw [hut])] at HE1
                              rw [decide_eq_true (show u.slots = t.slots by rw [hut])] at HE2
                              clear hd hql hg hl hso hK hR hT hL hI9 hB hz hn0 hmem hn0m hn0j cxq hne hk hq2 b0 b1 b2 hLu hxu hyu hut
                              go_wp2_with fail
                              go_quiet (first
                                | (go_at_call 42; with_reducible refine Calls.quiet_of (unhide HE1 _))
                                | (go_at_call 42; with_reducible refine Calls.quiet_of (unhide HE2 _)))
                              go_wp2_with fail
                              go_roundw
                              case rel => exact ⟨q2 + 1, by have := unhide Hq2; go_num, hide (unhide HLay nq)⟩
                              case measure => have := unhide Hq2; simp [RowKit.intOf]; omega
                            · have HR9 := hide (show verR P S I = (0, 9) by
                                rw [unhide Hrun3, ← hg, goV_other t n0 ns' K' u hne hk hut]
                                rfl)
                              have HB9 := hide hB
                              by_cases hst : u.stack = t.stack
                              · have hsl : ¬ u.slots = t.slots := fun e => hut (by
                                  cases u; cases t
                                  simp only at hst e
                                  subst hst e
                                  rfl)
                                rw [decide_eq_true hst] at HE1
                                rw [decide_eq_false hsl] at HE2
                                clear hd hql hg hl hso hK hR hT hL hI9 hB hz hn0 hmem hn0m hn0j cxq hne hk hq2 b0 b1 b2 hLu hxu hyu hut hst hsl
                                go_wp2_with fail
                                go_quiet (first
                                  | (go_at_call 42; with_reducible refine Calls.quiet_of (unhide HE1 _))
                                  | (go_at_call 42; with_reducible refine Calls.quiet_of (unhide HE2 _)))
                                go_wp2_with fail
                                exact bodyPost_ret (v := .tuple #[.int .i64 0, .int .i64 9]) (by simp [results, Tryz.results20, go_sem]) rfl ⟨by rw [unhide HR9], (unhide HB9).trans ((below_drewM wr nq).mono (unhide HB9).size)⟩
                              · rw [decide_eq_false hst] at HE1
                                clear hd hql hg hl hso hK hR hT hL hI9 hB hz hn0 hmem hn0m hn0j cxq hne hk hq2 b0 b1 b2 hLu hxu hyu hut hst
                                go_wp2_with fail
                                go_quiet (first
                                  | (go_at_call 42; with_reducible refine Calls.quiet_of (unhide HE1 _))
                                  | (go_at_call 42; with_reducible refine Calls.quiet_of (unhide HE2 _)))
                                go_wp2_with fail
                                exact bodyPost_ret (v := .tuple #[.int .i64 0, .int .i64 9]) (by simp [results, Tryz.results20, go_sem]) rfl ⟨by rw [unhide HR9], (unhide HB9).trans ((below_drewM wr nq).mono (unhide HB9).size)⟩
            · have b5 : (r5.1 != 0) = true := bne_iff_ne.2 h5
              have HR := hide (show verR P S I = (0, r5.1) by
                rw [← unhide Hrun, runV_step _ _ _ _ _ _ _ s (unhide Hs), unhide Hml, ← unhide Hr5, if_pos h5])
              clear h5
              generalize r5.1 = q5 at b5 HR ⊢
              go_wp2_with fail
              exact bodyPost_ret (v := .tuple #[.int .i64 0, .int .i64 q5]) (by simp [results, Tryz.results20, go_sem]) rfl ⟨by rw [unhide HR], (unhide HB5).alloc (unhide HB5).size _⟩
        · have e : j = m := by omega
          subst e
          rw [Nat.sub_self, runV] at hrun
          have Hrun := hide hrun
          have nij : ¬ ((j : Int) < (j : Int)) := by omega
          clear hrun hjm hj hKl
          go_wp2_with fail
          exact bodyPost_ret (v := .tuple #[.int .i64 (bd : Int), .int .i64 0]) (by simp [results, Tryz.results20, go_sem]) rfl ⟨by rw [← unhide Hrun], hB⟩

end Go.Proofs.YtogenboibgddaaaGreatDoor

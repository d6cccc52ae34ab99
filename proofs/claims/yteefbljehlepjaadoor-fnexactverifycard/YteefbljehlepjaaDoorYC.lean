/-
  The program's verifier: states in memory, what instructions pop and take. Own work.
-/
import Derived.Test.YteefbljehlepjaaDoorYB
import Derived.Test.YteefbljehlepjaaDoorInts0
namespace Go.Proofs.YteefbljehlepjaaDoor
open Go.RowKit
set_option linter.unusedVariables false

/-- a state in memory -/
def StAt (w : World) (q : Nat) (s : Vs) : Prop := ∃ a n c b m d, Row w q #[.slice a n c, .slice b m d] 80 ∧ Ints w a n c s.stack ∧ Ints w b m d s.slots ∧ n ≤ c ∧ m ≤ d ∧ c ≤ maxLen ∧ d ≤ maxLen

theorem StAt.below {w w' : World} {q B : Nat} {s : Vs} (h : StAt w q s) (hb : Below B w w') (hB : w.heap.size ≤ B) : StAt w' q s := by
  obtain ⟨a, n, c, b, m, d, R, h1, h2, h3⟩ := h
  exact ⟨a, n, c, b, m, d, R.after hb hB, h1.below hb hB, h2.below hb hB, h3⟩

theorem StAt.lt {w : World} {q : Nat} {s : Vs} (h : StAt w q s) : q < w.heap.size := by
  obtain ⟨a, n, c, b, m, d, R, _⟩ := h
  exact R.lt

/-- a state's blocks are not below lo -/
def StLo (lo : Nat) (w : World) (q : Nat) : Prop := lo ≤ q ∧ q < w.heap.size ∧ (∀ ad n c, w.cell? ⟨q, 0, none⟩ = some (.slice (some ad) n c) → lo ≤ ad.block) ∧ ∀ ad n c, w.cell? ⟨q, 1, none⟩ = some (.slice (some ad) n c) → lo ≤ ad.block

theorem StLo.below {w w' : World} {lo q B : Nat} (h : StLo lo w q) (hb : Below B w w') (hB : w.heap.size ≤ B) : StLo lo w' q := by
  obtain ⟨h1, h2, h3, h4⟩ := h
  refine ⟨h1, Nat.lt_of_lt_of_le h2 hb.size, fun ad n c e => h3 ad n c ?_, fun ad n c e => h4 ad n c ?_⟩
  · rw [← e]; exact (hb.cell (p := ⟨q, 0, none⟩) (Nat.lt_of_lt_of_le h2 hB)).symm
  · rw [← e]; exact (hb.cell (p := ⟨q, 1, none⟩) (Nat.lt_of_lt_of_le h2 hB)).symm

theorem StLo.mk' {w : World} {lo q : Nat} {a b : Option Addr} {n c m d : Nat} {t : TypeId} (R : Row w q #[.slice a n c, .slice b m d] t) (hq : lo ≤ q) (ha : ∀ ad, a = some ad → lo ≤ ad.block) (hb : ∀ ad, b = some ad → lo ≤ ad.block) : StLo lo w q := by
  have c0 : w.cell? ⟨q, 0, none⟩ = some (.slice a n c) := by simpa using R.cell 0
  have c1 : w.cell? ⟨q, 1, none⟩ = some (.slice b m d) := by simpa using R.cell 1
  refine ⟨hq, R.lt, fun ad n' c' e => ha ad ?_, fun ad n' c' e => hb ad ?_⟩
  · rw [c0] at e; simp only [Option.some.injEq, Value.slice.injEq] at e; exact e.1
  · rw [c1] at e; simp only [Option.some.injEq, Value.slice.injEq] at e; exact e.1

theorem StLo.parts {w : World} {lo q : Nat} {a b : Option Addr} {n c m d : Nat} {t : TypeId} (h : StLo lo w q) (R : Row w q #[.slice a n c, .slice b m d] t) : (∀ ad, a = some ad → lo ≤ ad.block) ∧ ∀ ad, b = some ad → lo ≤ ad.block := by
  have c0 : w.cell? ⟨q, 0, none⟩ = some (.slice a n c) := by simpa using R.cell 0
  have c1 : w.cell? ⟨q, 1, none⟩ = some (.slice b m d) := by simpa using R.cell 1
  exact ⟨fun ad e => h.2.2.1 ad n c (by rw [c0, e]), fun ad e => h.2.2.2 ad m d (by rw [c1, e])⟩

/-- a store below lo leaves a state as it is -/
theorem StAt.far {w : World} {lo q : Nat} {s : Vs} (h : StAt w q s) (hl : StLo lo w q) (p : Addr) (v : Value) (hp : p.block < lo) : StAt (w.setCell p v) q s ∧ StLo lo (w.setCell p v) q := by
  obtain ⟨a, n, c, b, m, d, R, h1, h2, h3⟩ := h
  obtain ⟨la, lb⟩ := hl.parts R
  have hq := hl.1
  have R' := R.setFar (p := p) (by show q ≠ p.block; omega) v
  have F : ∀ {x : Option Addr} {k e : Nat} {L : List Int}, Ints w x k e L → (∀ ad, x = some ad → lo ≤ ad.block) → Ints (w.setCell p v) x k e L := fun {x k e L} hi hx => ⟨hi.len, hi.small, fun j hj => by
    obtain ⟨b', off, ha, hl', c0⟩ := hi.cells j hj
    have hb' := hx _ ha
    refine ⟨b', off, ha, by simpa using hl', ?_⟩
    rw [World.cell?_of_block (heap_setCell_other w p b' v (by show b' ≠ p.block; simp only at hb'; omega))]
    exact c0⟩
  exact ⟨⟨a, n, c, b, m, d, R', F h1 la, F h2 lb, h3⟩, StLo.mk' R' hq la lb⟩

theorem rowS {w : World} {b : Nat} {v0 v1 : Value} {t : TypeId} (R : Row w b #[v0, v1] t) : w.cell? ⟨b, 0, none⟩ = some v0 ∧ w.cell? ⟨b, 1, none⟩ = some v1 := ⟨by simpa using R.cell 0, by simpa using R.cell 1⟩

theorem op25 {op : Int} (h0 : 1 ≤ op) (h1 : op ≤ 25) : op = 1 ∨ op = 2 ∨ op = 3 ∨ op = 4 ∨ op = 5 ∨ op = 6 ∨ op = 7 ∨ op = 8 ∨ op = 9 ∨ op = 10 ∨ op = 11 ∨ op = 12 ∨ op = 13 ∨ op = 14 ∨ op = 15 ∨ op = 16 ∨ op = 17 ∨ op = 18 ∨ op = 19 ∨ op = 20 ∨ op = 21 ∨ op = 22 ∨ op = 23 ∨ op = 24 ∨ op = 25 := by omega

set_option maxHeartbeats 1600000 in
theorem popCount_any (op : Int) (w : World) (h0 : 1 ≤ op) (h1 : op ≤ 25) :
    Calls Tryd.prog 35 #[.int .i64 op] w fun e w' => e = .returned (.int .i64 (popV op : Nat)) ∧ w' = w := by
  rcases op25 h0 h1 with e | e | e | e | e | e | e | e | e | e | e | e | e | e | e | e | e | e | e | e | e | e | e | e | e
  all_goals
    subst e
    clear h0 h1
    go_enter Tryd.func35, Tryd.ntmps35
    go_wp2
    go_ret
    exact ⟨rfl, rfl⟩

theorem topV_snoc (l : List Int) (h : 0 < l.length) : topV l = l[l.length - 1]'(by omega) := by
  unfold topV
  rw [List.getLast?_eq_getElem?, List.getElem?_eq_getElem (by omega)]
  rfl

set_option maxHeartbeats 1600000 in
theorem top_any (q : Nat) (s : Vs) (w : World) (h : StAt w q s) :
    Calls Tryd.prog 49 #[.pointer (some ⟨q, 0, none⟩)] w fun e w' => e = .returned (.int .i64 (topV s.stack)) ∧ Below w.heap.size w w' := by
  obtain ⟨a, n, c, b, m, d, R, h1, h2, h3, h4, h5, h6⟩ := h
  obtain ⟨q0, q1⟩ := rowS R
  have hl := h1.len
  have hsm := h1.small
  by_cases hn : n = 0
  · subst hn
    have HX := hide (show topV s.stack = 0 by have : s.stack = [] := List.eq_nil_of_length_eq_zero hl; rw [this]; rfl)
    clear hl
    go_enter Tryd.func49, Tryd.ntmps49
    go_wp2_with fail
    go_ret
    rw [unhide HX]
    exact ⟨rfl, Below.refl _ _⟩
  · have hpos : 0 < s.stack.length := by omega
    have HX := hide (topV_snoc s.stack hpos)
    obtain ⟨g, off, ha, _, hc⟩ := h1.cells (s.stack.length - 1) (by omega)
    subst ha
    have in0 : ((n : Int) == 0) = false := beq_eq_false_iff_ne.2 (by omega)
    obtain ⟨k, hk⟩ : ∃ k, n = k + 1 := ⟨n - 1, by omega⟩
    subst hk
    have e1 : s.stack.length - 1 = k := by omega
    generalize s.stack[s.stack.length - 1] = x at HX hc
    rw [e1] at hc
    have ik : ((k + 1 : Nat) : Int) - 1 = (k : Int) := by omega
    clear hl hpos e1 hn
    go_enter Tryd.func49, Tryd.ntmps49
    go_wp2_with fail
    go_region
    all_goals
      go_wp2_with fail
      go_ret
      rw [unhide HX]
      exact ⟨rfl, (Below.refl _ _).drew⟩

/-- a slice of numbers, less those on top -/
theorem Ints.take {w : World} {a : Option Addr} {n c : Nat} {L : List Int} (h : Ints w a n c L) (k : Nat) (hk : k ≤ n) : Ints w a k c (L.take k) :=
  ⟨by rw [List.length_take, h.len]; omega, by have := h.small; omega, fun j hj => by
    have hl := h.len
    rw [List.length_take] at hj
    obtain ⟨b, off, ha, h1, hc⟩ := h.cells j (by omega)
    exact ⟨b, off, ha, h1, by rw [hc, List.getElem_take]⟩⟩

theorem Ints.at {w : World} {a : Option Addr} {n c : Nat} {L : List Int} (h : Ints w a n c L) (j : Nat) (hj : j < n) : ∃ b off, a = some ⟨b, off, none⟩ ∧ b < w.heap.size ∧ w.cell? ⟨b, off + j, none⟩ = some (.int .i64 (L.getD j 0)) := by
  obtain ⟨b, off, ha, h1, hc⟩ := h.cells j (by rw [h.len]; exact hj)
  refine ⟨b, off, ha, h1, ?_⟩
  rw [hc, List.getD, List.getElem?_eq_getElem (by rw [h.len]; exact hj)]
  rfl

def RtAns (o : Option Int) (aT : Addr) (w : World) (e : Ending) (w' : World) : Prop := OtAns o aT e ∧ Below w.heap.size w w'

set_option maxRecDepth 100000 in
set_option maxHeartbeats 3200000 in
theorem resultType_any (op : Int) (q : Nat) (s : Vs) (aT : Addr) (w : World) (h : StAt w q s) (hv : Vok w aT) (h0 : 5 ≤ op) (h1 : op ≤ 21) (hp : popV op ≤ s.stack.length) :
    Calls Tryd.prog 50 #[.int .i64 op, .pointer (some ⟨q, 0, none⟩)] w fun e w' => RtAns (resV op s.stack) aT w e w' := by
  have HT := hide (fun W (hW : StAt W q s) => top_any q s W hW)
  have HO := hide (fun l r W (hW : Vok W aT) => operationType_any (op + 3) l r aT W hW)
  have HP := hide (popCount_any op w (by omega) (by omega))
  have Hst := hide h
  have Hvo := hide hv
  by_cases h7 : op ≤ 7
  · have hp1 : popV op = 1 := by
      have : op = 5 ∨ op = 6 ∨ op = 7 := by omega
      rcases this with rfl | rfl | rfl <;> rfl
    have HX := hide (show resV op s.stack = opT (op + 3) (topV s.stack) 0 by rw [resV, if_pos hp1])
    rw [hp1] at HP
    clear h hv hp hp1
    generalize topV s.stack = tp at HT HX
    go_enter Tryd.func50, Tryd.ntmps50
    go_wp2_with (first
      | (go_at_call 35; refine (unhide HP).mono ?_; rintro e w1 ⟨rfl, h1w⟩; rw [h1w])
      | (go_at_call 49; refine (unhide HT w (unhide Hst)).mono ?_; rintro e w2 ⟨rfl, hb2⟩)
      | (go_at_call 61; refine (unhide HO _ _ w2 ((unhide Hvo).below hb2 (Nat.le_refl _))).mono ?_; rintro e w3 ⟨he3, hb3⟩; unfold OtAns at he3; obtain rfl := he3))
    exact bodyPost_ret (v := .tuple #[.int .i64 ((opT (op + 3) tp 0).getD 0), errV (opT (op + 3) tp 0).isSome aT]) (by simp [results, Tryd.results50, go_sem]) rfl ⟨by rw [unhide HX]; rfl, hb2.trans (hb3.mono hb2.size)⟩
  · have hp2 : popV op = 2 := by
      rcases op25 (op := op) (by omega) (by omega) with e | e | e | e | e | e | e | e | e | e | e | e | e | e | e | e | e | e | e | e | e | e | e | e | e
      all_goals subst e
      all_goals first | rfl | omega
    have HX := hide (show resV op s.stack = opT (op + 3) (s.stack.getD (s.stack.length - 2) 0) (topV s.stack) by rw [resV, if_neg (by omega)])
    rw [hp2] at HP hp
    obtain ⟨a, n, c, b, m, d, R, h1', h2', h3, h4, h5, h6⟩ := h
    have hl := h1'.len
    have hsm := h1'.small
    obtain ⟨k, hk⟩ : ∃ k, n = k + 2 := ⟨n - 2, by omega⟩
    subst hk
    obtain ⟨g, off, ha, hgl, hc⟩ := h1'.at k (by omega)
    subst ha
    have ek : s.stack.length - 2 = k := by omega
    rw [ek] at HX
    generalize s.stack.getD k 0 = lf at hc HX
    generalize topV s.stack = tp at HT HX
    obtain ⟨q0, q1⟩ := rowS R
    have ik : ((k + 2 : Nat) : Int) - 2 = (k : Int) := by omega
    clear hv hp hp2 ek h1' h2' hl
    go_enter Tryd.func50, Tryd.ntmps50
    go_wp2_with (first
      | (go_at_call 35; refine (unhide HP).mono ?_; rintro e w1 ⟨rfl, h1w⟩; rw [h1w]))
    go_region
    all_goals
      have D0 : Below w.heap.size w w.drew := (Below.refl _ _).drew
      go_wp2_with (first
        | (go_at_call 49; refine (unhide HT w.drew ((unhide Hst).below D0 (Nat.le_refl _))).mono ?_; rintro e w2 ⟨rfl, hb2⟩; have hb2' := D0.trans hb2)
        | (go_at_call 61; refine (unhide HO _ _ w2 ((unhide Hvo).below hb2' (Nat.le_refl _))).mono ?_; rintro e w3 ⟨he3, hb3⟩; unfold OtAns at he3; obtain rfl := he3))
      exact bodyPost_ret (v := .tuple #[.int .i64 ((opT (op + 3) lf tp).getD 0), errV (opT (op + 3) lf tp).isSome aT]) (by simp [results, Tryd.results50, go_sem]) rfl ⟨by rw [unhide HX]; rfl, hb2'.trans (hb3.mono hb2'.size)⟩

end Go.Proofs.YteefbljehlepjaaDoor

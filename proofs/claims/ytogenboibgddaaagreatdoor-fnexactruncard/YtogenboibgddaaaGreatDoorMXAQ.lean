/-
  YC, YD, YE. Own work.
-/
import Derived.Test.YtogenboibgddaaaGreatDoorMXAJ
import Derived.Test.YtogenboibgddaaaGreatDoorMXAC
import Derived.Test.YtogenboibgddaaaGreatDoorShelf
import Derived.OwnWalk
namespace Go.Proofs.YtogenboibgddaaaGreatDoor
open Go.RowKit
set_option linter.unusedVariables false

/-- a state in memory -/
def StAt (w : World) (q : Nat) (s : Vs) : Prop := ∃ a n c b m d, Row w q #[.slice a n c, .slice b m d] 132 ∧ Ints w a n c s.stack ∧ Ints w b m d s.slots ∧ n ≤ c ∧ m ≤ d ∧ c ≤ maxLen ∧ d ≤ maxLen

theorem StAt.below {w w' : World} {q B : Nat} {s : Vs} (h : StAt w q s) (hb : Below B w w') (hB : w.heap.size ≤ B) : StAt w' q s := by
  obtain ⟨a, n, c, b, m, d, R, h1, h2, h3⟩ := h
  exact ⟨a, n, c, b, m, d, R.after hb hB, h1.below hb hB, h2.below hb hB, h3⟩

theorem StAt.lt {w : World} {q : Nat} {s : Vs} (h : StAt w q s) : q < w.heap.size := by
  obtain ⟨a, n, c, b, m, d, R, _⟩ := h
  exact R.lt

/-- a state's blocks are not below lo -/
def StLo (lo : Nat) (w : World) (q : Nat) : Prop := lo ≤ q ∧ q < w.heap.size ∧ (∀ ad n c, w.cell? ⟨q, 0, none⟩ = some (.slice (some ad) n c) → lo ≤ ad.block) ∧ ∀ ad n c, w.cell? ⟨q, 1, none⟩ = some (.slice (some ad) n c) → lo ≤ ad.block

theorem StLo.below {w w' : World} {lo q B : Nat} (h : StLo lo w q) (hb : Below B w w') (hB : w.heap.size ≤ B) : StLo lo w' q := by
  obtain ⟨h1, h2, h3, h4⟩ := h
  refine ⟨h1, Nat.lt_of_lt_of_le h2 hb.size, fun ad n c e => h3 ad n c ?_, fun ad n c e => h4 ad n c ?_⟩
  · rw [← e]; exact (hb.cell (p := ⟨q, 0, none⟩) (Nat.lt_of_lt_of_le h2 hB)).symm
  · rw [← e]; exact (hb.cell (p := ⟨q, 1, none⟩) (Nat.lt_of_lt_of_le h2 hB)).symm

theorem StLo.mk' {w : World} {lo q : Nat} {a b : Option Addr} {n c m d : Nat} {t : TypeId} (R : Row w q #[.slice a n c, .slice b m d] t) (hq : lo ≤ q) (ha : ∀ ad, a = some ad → lo ≤ ad.block) (hb : ∀ ad, b = some ad → lo ≤ ad.block) : StLo lo w q := by
  have c0 : w.cell? ⟨q, 0, none⟩ = some (.slice a n c) := by simpa using R.cell 0
  have c1 : w.cell? ⟨q, 1, none⟩ = some (.slice b m d) := by simpa using R.cell 1
  refine ⟨hq, R.lt, fun ad n' c' e => ha ad ?_, fun ad n' c' e => hb ad ?_⟩
  · rw [c0] at e; simp only [Option.some.injEq, Value.slice.injEq] at e; exact e.1
  · rw [c1] at e; simp only [Option.some.injEq, Value.slice.injEq] at e; exact e.1

theorem StLo.parts {w : World} {lo q : Nat} {a b : Option Addr} {n c m d : Nat} {t : TypeId} (h : StLo lo w q) (R : Row w q #[.slice a n c, .slice b m d] t) : (∀ ad, a = some ad → lo ≤ ad.block) ∧ ∀ ad, b = some ad → lo ≤ ad.block := by
  have c0 : w.cell? ⟨q, 0, none⟩ = some (.slice a n c) := by simpa using R.cell 0
  have c1 : w.cell? ⟨q, 1, none⟩ = some (.slice b m d) := by simpa using R.cell 1
  exact ⟨fun ad e => h.2.2.1 ad n c (by rw [c0, e]), fun ad e => h.2.2.2 ad m d (by rw [c1, e])⟩

/-- a store below lo leaves a state as it is -/
theorem StAt.far {w : World} {lo q : Nat} {s : Vs} (h : StAt w q s) (hl : StLo lo w q) (p : Addr) (v : Value) (hp : p.block < lo) : StAt (w.setCell p v) q s ∧ StLo lo (w.setCell p v) q := by
  obtain ⟨a, n, c, b, m, d, R, h1, h2, h3⟩ := h
  obtain ⟨la, lb⟩ := hl.parts R
  have hq := hl.1
  have R' := R.setFar (p := p) (by show q ≠ p.block; omega) v
  have F : ∀ {x : Option Addr} {k e : Nat} {L : List Int}, Ints w x k e L → (∀ ad, x = some ad → lo ≤ ad.block) → Ints (w.setCell p v) x k e L := fun {x k e L} hi hx => ⟨hi.len, hi.small, fun j hj => by
    obtain ⟨b', off, ha, hl', c0⟩ := hi.cells j hj
    have hb' := hx _ ha
    refine ⟨b', off, ha, by simpa using hl', ?_⟩
    rw [World.cell?_of_block (heap_setCell_other w p b' v (by show b' ≠ p.block; simp only at hb'; omega))]
    exact c0⟩
  exact ⟨⟨a, n, c, b, m, d, R', F h1 la, F h2 lb, h3⟩, StLo.mk' R' hq la lb⟩

theorem rowS {w : World} {b : Nat} {v0 v1 : Value} {t : TypeId} (R : Row w b #[v0, v1] t) : w.cell? ⟨b, 0, none⟩ = some v0 ∧ w.cell? ⟨b, 1, none⟩ = some v1 := ⟨by simpa using R.cell 0, by simpa using R.cell 1⟩

theorem op25 {op : Int} (h0 : 1 ≤ op) (h1 : op ≤ 25) : op = 1 ∨ op = 2 ∨ op = 3 ∨ op = 4 ∨ op = 5 ∨ op = 6 ∨ op = 7 ∨ op = 8 ∨ op = 9 ∨ op = 10 ∨ op = 11 ∨ op = 12 ∨ op = 13 ∨ op = 14 ∨ op = 15 ∨ op = 16 ∨ op = 17 ∨ op = 18 ∨ op = 19 ∨ op = 20 ∨ op = 21 ∨ op = 22 ∨ op = 23 ∨ op = 24 ∨ op = 25 := by omega

set_option maxHeartbeats 1600000 in
theorem popCount_any (op : Int) (w : World) (h0 : 1 ≤ op) (h1 : op ≤ 25) :
    Calls Tryz.prog 80 #[.int .i64 op] w fun e w' => e = .returned (.int .i64 (popV op : Nat)) ∧ w' = w := by
  rcases op25 h0 h1 with e | e | e | e | e | e | e | e | e | e | e | e | e | e | e | e | e | e | e | e | e | e | e | e | e
  all_goals
    subst e
    clear h0 h1
    go_enter Tryz.func80, Tryz.ntmps80
    go_wp2
    go_ret
    exact ⟨rfl, rfl⟩

theorem topV_snoc (l : List Int) (h : 0 < l.length) : topV l = l[l.length - 1]'(by omega) := by
  unfold topV
  rw [List.getLast?_eq_getElem?, List.getElem?_eq_getElem (by omega)]
  rfl

set_option maxHeartbeats 1600000 in
theorem top_any (q : Nat) (s : Vs) (w : World) (h : StAt w q s) :
    Calls Tryz.prog 103 #[.pointer (some ⟨q, 0, none⟩)] w fun e w' => e = .returned (.int .i64 (topV s.stack)) ∧ Below w.heap.size w w' := by
  obtain ⟨a, n, c, b, m, d, R, h1, h2, h3, h4, h5, h6⟩ := h
  obtain ⟨q0, q1⟩ := rowS R
  have hl := h1.len
  have hsm := h1.small
  by_cases hn : n = 0
  · subst hn
    have HX := hide (show topV s.stack = 0 by have : s.stack = [] := List.eq_nil_of_length_eq_zero hl; rw [this]; rfl)
    clear hl
    go_enter Tryz.func103, Tryz.ntmps103
    go_wp2_with fail
    go_ret
    rw [unhide HX]
    exact ⟨rfl, Below.refl _ _⟩
  · have hpos : 0 < s.stack.length := by omega
    have HX := hide (topV_snoc s.stack hpos)
    obtain ⟨g, off, ha, _, hc⟩ := h1.cells (s.stack.length - 1) (by omega)
    subst ha
    have in0 : ((n : Int) == 0) = false := beq_eq_false_iff_ne.2 (by omega)
    obtain ⟨k, hk⟩ : ∃ k, n = k + 1 := ⟨n - 1, by omega⟩
    subst hk
    have e1 : s.stack.length - 1 = k := by omega
    generalize s.stack[s.stack.length - 1] = x at HX hc
    rw [e1] at hc
    have ik : ((k + 1 : Nat) : Int) - 1 = (k : Int) := by omega
    clear hl hpos e1 hn
    go_enter Tryz.func103, Tryz.ntmps103
    go_wp2_with fail
    go_region
    all_goals
      go_wp2_with fail
      go_ret
      rw [unhide HX]
      exact ⟨rfl, (Below.refl _ _).drew⟩

/-- a slice of numbers, less those on top -/
theorem Ints.take {w : World} {a : Option Addr} {n c : Nat} {L : List Int} (h : Ints w a n c L) (k : Nat) (hk : k ≤ n) : Ints w a k c (L.take k) :=
  ⟨by rw [List.length_take, h.len]; omega, by have := h.small; omega, fun j hj => by
    have hl := h.len
    rw [List.length_take] at hj
    obtain ⟨b, off, ha, h1, hc⟩ := h.cells j (by omega)
    exact ⟨b, off, ha, h1, by rw [hc, List.getElem_take]⟩⟩

theorem Ints.at {w : World} {a : Option Addr} {n c : Nat} {L : List Int} (h : Ints w a n c L) (j : Nat) (hj : j < n) : ∃ b off, a = some ⟨b, off, none⟩ ∧ b < w.heap.size ∧ w.cell? ⟨b, off + j, none⟩ = some (.int .i64 (L.getD j 0)) := by
  obtain ⟨b, off, ha, h1, hc⟩ := h.cells j (by rw [h.len]; exact hj)
  refine ⟨b, off, ha, h1, ?_⟩
  rw [hc, List.getD, List.getElem?_eq_getElem (by rw [h.len]; exact hj)]
  rfl

def RtAns (o : Option Int) (aT : Addr) (w : World) (e : Ending) (w' : World) : Prop := OtAns o aT e ∧ Below w.heap.size w w'

set_option maxRecDepth 100000 in
set_option maxHeartbeats 3200000 in
theorem resultType_any (op : Int) (q : Nat) (s : Vs) (aT : Addr) (w : World) (h : StAt w q s) (hv : Vok w aT) (h0 : 5 ≤ op) (h1 : op ≤ 21) (hp : popV op ≤ s.stack.length) :
    Calls Tryz.prog 104 #[.int .i64 op, .pointer (some ⟨q, 0, none⟩)] w fun e w' => RtAns (resV op s.stack) aT w e w' := by
  have HT := hide (fun W (hW : StAt W q s) => top_any q s W hW)
  have HO := hide (fun l r W (hW : Vok W aT) => operationType_any (op + 3) l r aT W hW)
  have HP := hide (popCount_any op w (by omega) (by omega))
  have Hst := hide h
  have Hvo := hide hv
  by_cases h7 : op ≤ 7
  · have hp1 : popV op = 1 := by
      have : op = 5 ∨ op = 6 ∨ op = 7 := by omega
      rcases this with rfl | rfl | rfl <;> rfl
    have HX := hide (show resV op s.stack = opT (op + 3) (topV s.stack) 0 by rw [resV, if_pos hp1])
    rw [hp1] at HP
    clear h hv hp hp1
    generalize topV s.stack = tp at HT HX
    go_enter Tryz.func104, Tryz.ntmps104
    go_wp2_with (first
      | (go_at_call 80; refine (unhide HP).mono ?_; rintro e w1 ⟨rfl, h1w⟩; rw [h1w])
      | (go_at_call 103; refine (unhide HT w (unhide Hst)).mono ?_; rintro e w2 ⟨rfl, hb2⟩)
      | (go_at_call 116; refine (unhide HO _ _ w2 ((unhide Hvo).below hb2 (Nat.le_refl _))).mono ?_; rintro e w3 ⟨he3, hb3⟩; unfold OtAns at he3; obtain rfl := he3))
    exact bodyPost_ret (v := .tuple #[.int .i64 ((opT (op + 3) tp 0).getD 0), errY (opT (op + 3) tp 0).isSome aT]) (by simp [results, Tryz.results104, go_sem]) rfl ⟨by rw [unhide HX]; rfl, hb2.trans (hb3.mono hb2.size)⟩
  · have hp2 : popV op = 2 := by
      rcases op25 (op := op) (by omega) (by omega) with e | e | e | e | e | e | e | e | e | e | e | e | e | e | e | e | e | e | e | e | e | e | e | e | e
      all_goals subst e
      all_goals first | rfl | omega
    have HX := hide (show resV op s.stack = opT (op + 3) (s.stack.getD (s.stack.length - 2) 0) (topV s.stack) by rw [resV, if_neg (by omega)])
    rw [hp2] at HP hp
    obtain ⟨a, n, c, b, m, d, R, h1', h2', h3, h4, h5, h6⟩ := h
    have hl := h1'.len
    have hsm := h1'.small
    obtain ⟨k, hk⟩ : ∃ k, n = k + 2 := ⟨n - 2, by omega⟩
    subst hk
    obtain ⟨g, off, ha, hgl, hc⟩ := h1'.at k (by omega)
    subst ha
    have ek : s.stack.length - 2 = k := by omega
    rw [ek] at HX
    generalize s.stack.getD k 0 = lf at hc HX
    generalize topV s.stack = tp at HT HX
    obtain ⟨q0, q1⟩ := rowS R
    have ik : ((k + 2 : Nat) : Int) - 2 = (k : Int) := by omega
    clear hv hp hp2 ek h1' h2' hl
    go_enter Tryz.func104, Tryz.ntmps104
    go_wp2_with (first
      | (go_at_call 80; refine (unhide HP).mono ?_; rintro e w1 ⟨rfl, h1w⟩; rw [h1w]))
    go_region
    all_goals
      have D0 : Below w.heap.size w w.drew := (Below.refl _ _).drew
      go_wp2_with (first
        | (go_at_call 103; refine (unhide HT w.drew ((unhide Hst).below D0 (Nat.le_refl _))).mono ?_; rintro e w2 ⟨rfl, hb2⟩; have hb2' := D0.trans hb2)
        | (go_at_call 116; refine (unhide HO _ _ w2 ((unhide Hvo).below hb2' (Nat.le_refl _))).mono ?_; rintro e w3 ⟨he3, hb3⟩; unfold OtAns at he3; obtain rfl := he3))
      exact bodyPost_ret (v := .tuple #[.int .i64 ((opT (op + 3) lf tp).getD 0), errY (opT (op + 3) lf tp).isSome aT]) (by simp [results, Tryz.results104, go_sem]) rfl ⟨by rw [unhide HX]; rfl, hb2'.trans (hb3.mono hb2'.size)⟩

end Go.Proofs.YtogenboibgddaaaGreatDoor

namespace Go.Proofs.YtogenboibgddaaaGreatDoor
open Go.RowKit
set_option linter.unusedVariables false

theorem takesV_op {i : Is1} {s : Vs} (h0 : 5 ≤ i.op) (h1 : i.op ≤ 21) : takesV i s = (resV i.op s.stack).isSome := by
  unfold takesV
  rw [if_neg (by omega), if_neg (by omega), if_neg (by omega), if_neg (by omega)]

theorem errV_nil (b : Bool) (aT : Addr) : b = true ∧ errY b aT = .nilIface ∨ b = false ∧ errY b aT = .iface 216 (.pointer (some aT)) := by
  cases b
  · exact .inr ⟨rfl, rfl⟩
  · exact .inl ⟨rfl, rfl⟩

set_option maxRecDepth 100000 in
set_option maxHeartbeats 6400000 in
theorem takes_any (i : Is1) (q : Nat) (s : Vs) (aT : Addr) (w : World) (h : StAt w q s) (hv : Vok w aT) (h0 : 1 ≤ i.op) (h1 : i.op ≤ 25) (hp : popV i.op ≤ s.stack.length) (ha : i.op = 4 → 0 ≤ i.arg ∧ i.arg < s.slots.length) :
    Calls Tryz.prog 81 #[.agg #[.int .i64 i.op, .int .i64 i.arg], .pointer (some ⟨q, 0, none⟩)] w fun e w' => e = .returned (.bool (takesV i s)) ∧ Below w.heap.size w w' := by
  obtain ⟨op, arg⟩ := i
  simp only at h0 h1 hp ha
  have B0 := (Below.refl w.heap.size w).alloc (Nat.le_refl _) (.cells #[.int .i64 op, .int .i64 arg] 87)
  have S0 := h.below B0 (Nat.le_refl _)
  have V0 := hv.below B0 (Nat.le_refl _)
  have R0 := Row.new w #[.int .i64 op, .int .i64 arg] 87
  obtain ⟨r0, r1⟩ := rowS R0
  by_cases hop : 5 ≤ op ∧ op ≤ 21
  · have HX := hide (takesV_op (i := ⟨op, arg⟩) (s := s) hop.1 hop.2)
    have HR := hide (resultType_any op q s aT _ S0 V0 hop.1 hop.2 hp)
    simp only at HX
    generalize resV op s.stack = ro at HX HR
    have e1 : (op == 1) = false := beq_eq_false_iff_ne.2 (by omega)
    have e2 : (op == 2) = false := beq_eq_false_iff_ne.2 (by omega)
    have e3 : (op == 3) = false := beq_eq_false_iff_ne.2 (by omega)
    have e4 : (op == 4) = false := beq_eq_false_iff_ne.2 (by omega)
    have e22 : (op == 22) = false := beq_eq_false_iff_ne.2 (by omega)
    have e23 : (op == 23) = false := beq_eq_false_iff_ne.2 (by omega)
    have e24 : (op == 24) = false := beq_eq_false_iff_ne.2 (by omega)
    have e25 : (op == 25) = false := beq_eq_false_iff_ne.2 (by omega)
    clear h hv S0 V0 ha hp
    go_enter Tryz.func81, Tryz.ntmps81
    go_wp2_with fail
    refine (unhide HR).mono ?_
    rintro e w2 ⟨he, hb2⟩
    unfold OtAns at he
    obtain rfl := he
    rcases errV_nil ro.isSome aT with ⟨hb, hv⟩ | ⟨hb, hv⟩
    all_goals
      rw [hv]
      have HY := hide ((unhide HX).trans hb)
      clear hv hb
      go_wp2_with fail
      go_ret
      rw [unhide HY]
      exact ⟨rfl, B0.trans (hb2.mono B0.size)⟩
  by_cases hj : op = 1 ∨ op = 2 ∨ op = 3 ∨ op = 22 ∨ op = 24
  · have HX := hide (show takesV ⟨op, arg⟩ s = true by unfold takesV; rw [if_pos hj])
    clear h hv S0 V0 ha hp hop
    rcases hj with rfl | rfl | rfl | rfl | rfl
    all_goals
      go_enter Tryz.func81, Tryz.ntmps81
      go_wp2_with fail
      go_ret
      rw [unhide HX]
      exact ⟨rfl, B0⟩
  have HT := hide (fun W (hW : StAt W q s) => top_any q s W hW)
  by_cases h23 : op = 23
  · subst h23
    have HX := hide (show takesV ⟨23, arg⟩ s = decide (topV s.stack = 1) from rfl)
    generalize topV s.stack = tp at HT HX
    clear hv V0 ha hp hop hj
    go_enter Tryz.func81, Tryz.ntmps81
    go_wp2_with (go_at_call 103; refine (unhide HT _ S0).mono ?_; rintro e w2 ⟨rfl, hb2⟩)
    go_ret
    rw [unhide HX]
    refine ⟨?_, B0.trans (hb2.mono B0.size)⟩
    first | rfl | (congr 2; by_cases e : tp = 1 <;> simp [e])
  by_cases h25 : op = 25
  · subst h25
    have HX := hide (show takesV ⟨25, arg⟩ s = decide (topV s.stack = 4) from rfl)
    generalize topV s.stack = tp at HT HX
    clear hv V0 ha hp hop hj h23
    go_enter Tryz.func81, Tryz.ntmps81
    go_wp2_with (go_at_call 103; refine (unhide HT _ S0).mono ?_; rintro e w2 ⟨rfl, hb2⟩)
    go_ret
    rw [unhide HX]
    refine ⟨?_, B0.trans (hb2.mono B0.size)⟩
    first | rfl | (congr 2; by_cases e : tp = 4 <;> simp [e])
  have h4 : op = 4 := by omega
  subst h4
  have HX := hide (show takesV ⟨4, arg⟩ s = decide (atV s.slots arg = 0 ∨ atV s.slots arg = topV s.stack) from rfl)
  obtain ⟨ha0, ha1⟩ := ha rfl
  obtain ⟨k, rfl⟩ := Int.eq_ofNat_of_zero_le ha0
  obtain ⟨a, n, c, b, m, d, R, i1, i2, l1, l2, l3, l4⟩ := id S0
  have hm := i2.len
  have hsm := i2.small
  have hkm : k < m := by omega
  obtain ⟨g, off, hb', hgl, hc⟩ := i2.at k hkm
  subst hb'
  have HX2 := hide (show takesV ⟨4, (k : Int)⟩ s = decide (s.slots.getD k 0 = 0 ∨ s.slots.getD k 0 = topV s.stack) from rfl)
  generalize s.slots.getD k 0 = sv at hc HX2
  generalize topV s.stack = tp at HT HX2
  obtain ⟨q0, q1⟩ := rowS R
  have ikm : (k : Int) < (m : Int) := by omega
  clear hv V0 ha hp hop hj h23 h25 HX i1 i2 ha0 ha1 hm
  by_cases hs0 : sv = 0
  · subst hs0
    have HY := hide (show takesV ⟨4, (k : Int)⟩ s = true by rw [unhide HX2]; simp)
    clear HX2
    go_enter Tryz.func81, Tryz.ntmps81
    go_wp2_with fail
    go_region
    all_goals
      go_wp2_with fail
      go_ret
      rw [unhide HY]
      exact ⟨rfl, B0.drew⟩
  · have hs1 : (sv == 0) = false := beq_eq_false_iff_ne.2 hs0
    have HY := hide (show takesV ⟨4, (k : Int)⟩ s = decide (sv = tp) by rw [unhide HX2]; simp [hs0])
    clear HX2 hs0
    go_enter Tryz.func81, Tryz.ntmps81
    go_wp2_with fail
    go_region
    all_goals
      have D0 := (Below.refl (w.alloc (.cells #[.int .i64 4, .int .i64 k] 87)).heap.size (w.alloc (.cells #[.int .i64 4, .int .i64 k] 87))).drew
      go_wp2_with (go_at_call 103; refine (unhide HT _ (S0.below D0 (Nat.le_refl _))).mono ?_; rintro e w2 ⟨rfl, hb2⟩)
      go_ret
      rw [unhide HY]
      refine ⟨?_, B0.drew.trans (hb2.mono B0.size)⟩
      first | rfl | (congr 2; by_cases e : sv = tp <;> simp [e])

end Go.Proofs.YtogenboibgddaaaGreatDoor

namespace Go.Proofs.YtogenboibgddaaaGreatDoor
open Go.RowKit Go.Lib
set_option linter.unusedVariables false

def intsV (L : List Int) : List Value := L.map (Value.int .i64)

theorem ints_own {w : World} {base : Nat} {x : Option Addr} {n c : Nat} {L : List Int} (h : w.ownsRow base 3 1 (.slice x n c) n (intsV L)) (hn : n ≤ 1048576) : Ints w x n c L := by
  have hl : L.length = n := by have := h.1; rw [intsV, List.length_map] at this; omega
  refine ⟨hl, hn, fun j hj => ?_⟩
  obtain ⟨g, hg⟩ : ∃ g, x = some ⟨g, 0, none⟩ := by
    rcases h.2 with ⟨_, h0⟩ | ⟨g, cap, cur, hv, _⟩
    · omega
    · simp only [Value.slice.injEq] at hv; exact ⟨g, hv.1⟩
  subst hg
  refine ⟨g, 0, rfl, (h.lt g rfl).2, ?_⟩
  rw [Nat.zero_add, h.cellAt j (by omega), intsV, List.getElem?_map, List.getElem?_eq_getElem hj]
  rfl

/-- numbers of the call's own -/
def OwnI (w : World) (L : List Int) (e : Ending) (w' : World) : Prop := ∃ x c, e = .returned (.slice x L.length c) ∧ w'.ownsRow w.heap.size 3 1 (.slice x L.length c) L.length (intsV L) ∧ Below w.heap.size w w'

theorem cloneI_any (a : Option Addr) (n c : Nat) (L : List Int) (w : World) (h : Ints w a n c L) :
    Calls Tryz.prog 107 #[.slice a n c] w fun e w' => OwnI w L e w' := by
  have hl := h.len
  have hs := h.small
  cases a with
  | none =>
    have hL : L = [] := by
      cases L with
      | nil => rfl
      | cons x L =>
        obtain ⟨b, off, hn, _⟩ := h.cells 0 (by simp)
        cases hn
    subst hL
    refine (Tryz.slices_Clone_int_nil n c w).mono ?_
    rintro e w' ⟨rfl, rfl⟩
    exact ⟨none, 0, rfl, World.ownsRow_nil _ _ _ _, Below.refl _ _⟩
  | some ad =>
    cases L with
    | nil =>
      have hn : n = 0 := by simpa using hl.symm
      subst hn
      refine (Tryz.slices_Clone_int_zero ad c w).mono ?_
      rintro e w' ⟨v', rfl, ho, _, hb⟩
      obtain ⟨x, c', rfl⟩ := owns_form ho
      exact ⟨x, c', rfl, ho, hb⟩
    | cons y L =>
      obtain ⟨b, off, hn, _⟩ := h.cells 0 (by simp)
      cases hn
      refine (Tryz.slices_Clone_int b off n c (y :: L) w (by omega) (by omega) (fun j hj => ?_)).mono ?_
      · obtain ⟨b', off', hn', _, hc⟩ := h.at j (by omega)
        cases hn'
        exact hc
      · rintro e w' ⟨v', rfl, ho, _, hb⟩
        rw [List.take_of_length_le (by omega)] at ho
        obtain ⟨x, c', rfl⟩ := owns_form ho
        subst hl
        exact ⟨x, c', rfl, ho, hb⟩

theorem intsV_set (L : List Int) (k : Nat) (x : Int) : (intsV L).set k (.int .i64 x) = intsV (L.set k x) := by
  rw [intsV, intsV, List.map_set]

/-- numbers that lie in memory -/
def IntA (w : World) (a : Option Addr) (L : List Int) (e : Ending) (w' : World) : Prop := ∃ x c, e = .returned (.slice x L.length c) ∧ Ints w' x L.length c L ∧ L.length ≤ c ∧ c ≤ maxLen ∧ (x = a ∨ ∀ ad, x = some ad → w.heap.size ≤ ad.block) ∧ Below w.heap.size w w'

theorem set_same (L : List Int) (k : Nat) (x : Int) (h : L.getD k 0 = x) (hk : k < L.length) : L.set k x = L := by
  apply List.ext_getElem
  · simp
  · intro i h1 h2
    rw [List.getElem_set]
    split
    · rename_i e; subst e
      rw [List.getD, List.getElem?_eq_getElem hk] at h
      exact h.symm
    · rfl

set_option maxRecDepth 100000 in
set_option maxHeartbeats 1600000 in
theorem withSlot_any (a : Option Addr) (n c k : Nat) (L : List Int) (x : Int) (w : World) (h : Ints w a n c L) (hk : k < n) (hc : n ≤ c) (hcs : c ≤ maxLen) (hn : n ≤ 600) :
    Calls Tryz.prog 105 #[.slice a n c, .int .i64 k, .int .i64 x] w fun e w' => IntA w a (L.set k x) e w' := by
  have hl := h.len
  obtain ⟨b, off, ha, hbl, hcell⟩ := h.at k hk
  subst ha
  have HC := hide (cloneI_any _ n c L w h)
  have hsm := h.small
  have Hint := hide h
  have Hl := hide hl
  have ik : (k : Int) < (n : Int) := by omega
  by_cases hx : L.getD k 0 = x
  · have HX := hide (set_same L k x hx (by omega))
    subst hx
    clear h hl
    generalize L.getD k 0 = y at hcell HX
    go_enter Tryz.func105, Tryz.ntmps105
    go_wp2_with fail
    go_ret
    rw [unhide HX]
    have hl := unhide Hl
    subst hl
    exact ⟨_, _, rfl, unhide Hint, hc, hcs, .inl rfl, Below.refl _ _⟩
  · have hxb : (L.getD k 0 == x) = false := beq_eq_false_iff_ne.2 hx
    clear h hl hx
    generalize L.getD k 0 = y at hcell hxb
    go_enter Tryz.func105, Tryz.ntmps105
    go_wp2_with fail
    refine (unhide HC).mono ?_
    rintro e w1 ⟨x1, c1, rfl, ow1, hb1⟩
    have hl := unhide Hl
    have hkl : k < L.length := by omega
    obtain ⟨g, hg, hcap⟩ : ∃ g, x1 = some ⟨g, 0, none⟩ ∧ L.length ≤ c1 ∧ c1 ≤ maxLen := by
      rcases ow1.2 with ⟨_, h0⟩ | ⟨g, cap, cur, hv, _, _, h1, h2, _⟩
      · omega
      · simp only [Value.slice.injEq] at hv
        obtain ⟨hv1, _, rfl⟩ := hv
        exact ⟨g, hv1, h1, h2⟩
    subst hg
    have c0 := (ow1.cellAt k (by omega)).trans (by rw [intsV, List.getElem?_map, List.getElem?_eq_getElem hkl])
    simp only [Option.map_some] at c0
    have cf := fun i => ow1.frozenAt i
    have HO := hide (ow1.stored k (.int .i64 x)).1
    have hgl := (ow1.lt g rfl).1
    have ikl : (k : Int) < (L.length : Int) := by omega
    have Hll := hide hkl
    clear ow1 hl
    go_wp2_with fail
    go_ret
    have O2 := unhide HO
    rw [intsV_set] at O2
    have hls : (L.set k x).length = L.length := by simp
    refine ⟨some ⟨g, 0, none⟩, c1, by rw [hls]; rfl, ints_own (by rw [hls]; exact O2) (by rw [hls, unhide Hl]; exact hsm), by rw [hls]; exact hcap.1, hcap.2, .inr (fun ad e => by cases e; exact hgl), hb1.setCell (p := ⟨g, k, none⟩) hgl _⟩

end Go.Proofs.YtogenboibgddaaaGreatDoor

/-
  EX0, YA, YB. Own work.
-/
import Derived.Test.YtogenboibgddaaaGreatDoorEM
import Derived.Test.YtogenboibgddaaaGreatDoorMXAC
namespace Go.Proofs.YtogenboibgddaaaGreatDoor
open Go.RowKit Go.Lib
set_option linter.unusedVariables false


theorem rowC {w : World} {b : Nat} {v0 v1 v2 : Value} {t : TypeId} (R : Row w b #[v0, v1, v2] t) : w.cell? ⟨b, 0, none⟩ = some v0 ∧ w.cell? ⟨b, 1, none⟩ = some v1 ∧ w.cell? ⟨b, 2, none⟩ = some v2 :=
  ⟨by simpa using R.cell 0, by simpa using R.cell 1, by simpa using R.cell 2⟩

set_option maxHeartbeats 800000 in
theorem headerOf_any (a b : Option Addr) (n c m d : Nat) (s : Int) (w : World) (hn : n ≤ 1048576) (hm : m ≤ 1048576) :
    Calls Tryz.prog 75 #[.agg #[.slice a n c, .int .i64 s, .slice b m d]] w fun e w' => e = .returned (.agg #[.int .i64 n, .int .i64 s, .int .i64 m]) ∧ Below w.heap.size w w' := by
  go_enter Tryz.func75, Tryz.ntmps75
  go_wp2_with fail
  exact bodyPost_ret (v := .agg #[.int .i64 n, .int .i64 s, .int .i64 m]) (by simp [results, Tryz.results75, go_sem]) rfl ⟨rfl, ((Below.refl w.heap.size w).alloc (Nat.le_refl _) _).alloc (by simp) _⟩

set_option maxHeartbeats 800000 in
theorem fits_any (n m : Nat) (s : Int) (w : World) :
    Calls Tryz.prog 76 #[.agg #[.int .i64 n, .int .i64 s, .int .i64 m]] w fun e w' => e = .returned (.bool (decide (n ≤ 4000 ∧ m ≤ 20000 ∧ 0 ≤ s ∧ s ≤ 600))) ∧ Below w.heap.size w w' := by
  go_enter Tryz.func76, Tryz.ntmps76
  go_wp2
  all_goals
    go_ret
    refine ⟨ret_bool ?_, (Below.refl w.heap.size w).alloc (Nat.le_refl _) _⟩
    rw [Bool.eq_iff_iff]
    simp
    try omega

theorem all_at {α : Type} (p : α → Bool) (L : List α) : L.all p = true ↔ ∀ j, (h : j < L.length) → p L[j] = true := by
  rw [List.all_eq_true]
  constructor
  · intro h j hj; exact h _ (List.getElem_mem hj)
  · intro h x hx
    obtain ⟨j, hj, rfl⟩ := List.getElem_of_mem hx
    exact h j hj

set_option maxRecDepth 100000 in
set_option maxHeartbeats 3200000 in
theorem rightShape_any (a b : Option Addr) (n c m d : Nat) (s : Int) (P : List Vl) (I : List Is1) (w : World) (hV : Vls w a n c P) (hI : Iss w b m d I) :
    Calls Tryz.prog 50 #[.agg #[.slice a n c, .int .i64 s, .slice b m d]] w fun e w' => e = .returned (.bool (shapB P s I)) ∧ Below w.heap.size w w' := by
  have hn := hV.small
  have hm := hI.small
  have HP := hide hV.len
  have HI := hide hI.len
  have HF := hide (show shapB P s I = (decide (n ≤ 4000 ∧ m ≤ 20000 ∧ 0 ≤ s ∧ s ≤ 600) && P.all valB && I.all insB) by rw [shapB, hV.len, hI.len])
  have R0 := Row.new w #[.slice a n c, .int .i64 s, .slice b m d] 39
  have B0 := (Below.refl w.heap.size w).alloc (Nat.le_refl _) (.cells #[.slice a n c, .int .i64 s, .slice b m d] 39)
  have V0 := hV.below B0 (Nat.le_refl _)
  have I0 := hI.below B0 (Nat.le_refl _)
  generalize shapB P s I = FB at HF ⊢
  generalize hfit : decide (n ≤ 4000 ∧ m ≤ 20000 ∧ 0 ≤ s ∧ s ≤ 600) = ft at HF
  have Hft := hide hfit
  clear hfit
  go_enter Tryz.func50, Tryz.ntmps50
  cases ft
  · have HX := hide (show FB = false by rw [unhide HF]; rfl)
    go_wp2_with (first
      | (go_at_call 75; refine (headerOf_any _ _ _ _ _ _ _ _ hn hm).mono ?_; rintro e w2 ⟨rfl, hb2⟩)
      | (go_at_call 76; refine (fits_any _ _ _ _).mono ?_; rintro e w3 ⟨rfl, hb3⟩; rw [unhide Hft]))
    go_ret
    exact ⟨ret_bool (unhide HX).symm, B0.trans ((hb2.trans (hb3.mono hb2.size)).mono B0.size)⟩
  · have HG := hide (show FB = (P.all valB && I.all insB) by rw [unhide HF, Bool.true_and])
    clear HF
    go_wp2_with (first
      | (go_at_call 75; refine (headerOf_any _ _ _ _ _ _ _ _ hn hm).mono ?_; rintro e w2 ⟨rfl, hb2⟩)
      | (go_at_call 76; refine (fits_any _ _ _ _).mono ?_; rintro e w3 ⟨rfl, hb3⟩; rw [unhide Hft]; have hb3' := hb2.trans (hb3.mono hb2.size); obtain ⟨q0, q1, q2⟩ := rowC (R0.after hb3' (Nat.le_refl _))))
    have E3 := B0.trans (hb3'.mono B0.size)
    clear hb2 hb3 V0 I0
    go_loopw [14] (fun i wr => ∃ k : Nat, k ≤ n ∧ i = .int .i64 k ∧ Below w.heap.size w wr ∧ Row wr w.heap.size #[.slice a n c, .int .i64 s, .slice b m d] 39 ∧ Hid (∀ j, (hj : j < P.length) → j < k → valB P[j] = true)) (fun i _ => n - (intOf i).toNat)
    case atStart => exact ⟨0, Nat.zero_le _, rfl, E3, R0.after hb3' (Nat.le_refl _), hide (fun j _ h => absurd h (by omega))⟩
    case round =>
      obtain ⟨k, hk, rfl, B1, R1, Ha⟩ := hrel
      clear q0 q1 q2 hb3' E3
      by_cases hlt : k < n
      · have ilt : (k : Int) < (n : Int) := by omega
        have hkl : k < P.length := by rw [unhide HP]; exact hlt
        have hsz := hV.sizes P[k] (List.getElem_mem hkl)
        obtain ⟨b', off, rfl, hbl, an, nn, cn, y0, y1, y2, y3, hN⟩ := (hV.below B1 (Nat.le_refl _)).cells k hkl
        have Hno := hide (show valB P[k] = false → FB = false from fun e => by
          rw [unhide HG, show P.all valB = false by rw [← Bool.not_eq_true, all_at]; intro h; rw [h k hkl] at e; cases e]
          rfl)
        have HY := hide (show valB P[k] = true → ∀ j, (hj : j < P.length) → j < k + 1 → valB P[j] = true from fun e j hj h' => by
          by_cases ej : j = k
          · subst ej; exact e
          · exact unhide Ha j hj (by omega))
        have Hlt := hide hlt
        clear Ha
        generalize P[k] = z at y0 y1 y2 y3 hsz hN Hno HY
        have B2 := B1.alloc B1.size (.cells #[.int .i64 z.kind, .int .i64 z.num, .string z.text, .slice an nn cn] 88)
        have C2 := (Below.refl wr.heap.size wr).alloc (Nat.le_refl _) (.cells #[.int .i64 z.kind, .int .i64 z.num, .string z.text, .slice an nn cn] 88)
        have N2 := hN.below C2 (Nat.le_refl _)
        have R2 := R1.after C2 (Nat.le_refl _)
        cases hv : valB z
        · have HX := hide (unhide Hno hv)
          have Hv := hide hv
          clear hv Hno HY
          go_wp2_with (go_at_call 77; refine (validValue_any z an nn cn _ N2 hsz).mono ?_; rintro e w4 ⟨rfl, hb4⟩; rw [unhide Hv])
          go_ret
          exact ⟨ret_bool (unhide HX).symm, B2.trans (hb4.mono B2.size)⟩
        · have HY2 := hide (unhide HY hv)
          have Hv := hide hv
          clear hv Hno HY
          go_wp2_with (go_at_call 77; refine (validValue_any z an nn cn _ N2 hsz).mono ?_; rintro e w4 ⟨rfl, hb4⟩; rw [unhide Hv])
          go_roundw
          case rel => exact ⟨k + 1, unhide Hlt, by go_num, B2.trans (hb4.mono B2.size), R2.after hb4 (Nat.le_refl _), HY2⟩
          case measure => have := unhide Hlt; simp [intOf]; omega
      · have HA := hide (show FB = I.all insB by rw [unhide HG, (all_at valB P).2 (fun j hj => unhide Ha j hj (by have := unhide HP; omega)), Bool.true_and])
        have ilt : ¬ ((k : Int) < (n : Int)) := by omega
        obtain ⟨q0, q1, q2⟩ := rowC R1
        have HB1 := hide B1
        clear Ha HG B1
        go_wp2_with fail
        go_loopw [25] (fun i wr => ∃ k : Nat, k ≤ m ∧ i = .int .i64 k ∧ Below w.heap.size w wr ∧ Hid (∀ j, (hj : j < I.length) → j < k → insB I[j] = true)) (fun i _ => m - (intOf i).toNat)
        case atStart => exact ⟨0, Nat.zero_le _, rfl, unhide HB1, hide (fun j _ h => absurd h (by omega))⟩
        case round =>
          obtain ⟨k2, hk2, rfl, B1, Ha⟩ := hrel
          clear R1 q0 q1 q2
          by_cases hlt : k2 < m
          · have ilt : (k2 : Int) < (m : Int) := by omega
            have hkl : k2 < I.length := by rw [unhide HI]; exact hlt
            obtain ⟨b', off, rfl, hbl, y0, y1⟩ := (hI.below B1 (Nat.le_refl _)).cells k2 hkl
            have Hno := hide (show insB I[k2] = false → FB = false from fun e => by
              rw [unhide HA, ← Bool.not_eq_true, all_at]
              intro h
              rw [h k2 hkl] at e
              cases e)
            have HY := hide (show insB I[k2] = true → ∀ j, (hj : j < I.length) → j < k2 + 1 → insB I[j] = true from fun e j hj h' => by
              by_cases ej : j = k2
              · subst ej; exact e
              · exact unhide Ha j hj (by omega))
            have Hlt := hide hlt
            clear Ha
            generalize I[k2] = z at y0 y1 Hno HY
            have B2 := B1.alloc B1.size (.cells #[.int .i64 z.op, .int .i64 z.arg] 87)
            cases hv : insB z
            · have HX := hide (unhide Hno hv)
              have Hv := hide hv
              clear hv Hno HY
              go_wp2_with (go_at_call 78; refine (validIns_any z _).mono ?_; rintro e w4 ⟨rfl, hb4⟩; rw [unhide Hv])
              go_ret
              exact ⟨ret_bool (unhide HX).symm, B2.trans (hb4.mono B2.size)⟩
            · have HY2 := hide (unhide HY hv)
              have Hv := hide hv
              clear hv Hno HY
              go_wp2_with (go_at_call 78; refine (validIns_any z _).mono ?_; rintro e w4 ⟨rfl, hb4⟩; rw [unhide Hv])
              go_roundw
              case rel => exact ⟨k2 + 1, unhide Hlt, by go_num, B2.trans (hb4.mono B2.size), HY2⟩
              case measure => have := unhide Hlt; simp [intOf]; omega
          · have HX := hide (show FB = true by rw [unhide HA]; exact (all_at insB I).2 (fun j hj => unhide Ha j hj (by have := unhide HI; omega)))
            have ilt : ¬ ((k2 : Int) < (m : Int)) := by omega
            clear Ha
            go_wp2_with fail
            go_ret
            exact ⟨ret_bool (unhide HX).symm, B1⟩

theorem ownsRow_low' {w : World} {base base' : Nat} {e : TypeId} {size : Nat} {v : Value} {n : Nat} {xs : List Value} (h : w.ownsRow base e size v n xs) (hb : base' ≤ base) : w.ownsRow base' e size v n xs := by
  refine ⟨h.1, ?_⟩
  rcases h.2 with hn | ⟨g, cap, cur, hv, h1, h2, h3⟩
  · exact .inl hn
  · exact .inr ⟨g, cap, cur, hv, by omega, h2, h3⟩

end Go.Proofs.YtogenboibgddaaaGreatDoor

namespace Go.Proofs.YtogenboibgddaaaGreatDoor
open Go.RowKit
set_option linter.unusedVariables false

/-- a state: the types on the stack, from below, and those of the slots -/
structure Vs where
  stack : List Int
  slots : List Int
deriving DecidableEq

/-- what operators take and give -/
def sigs : List (Int × Int × Int × Int) := [(8, 2, 0, 2), (9, 1, 0, 1), (10, 4, 0, 2), (11, 2, 2, 2), (12, 2, 2, 2), (13, 2, 2, 2), (14, 2, 2, 2), (15, 2, 2, 2), (16, 4, 4, 4), (17, 4, 4, 4), (18, 4, 4, 4), (21, 2, 2, 1), (22, 2, 2, 1), (23, 3, 4, 1), (24, 4, 4, 1), (25, 1, 1, 1), (26, 1, 1, 1)]

def sigB (op l r : Int) (s : Int × Int × Int × Int) : Bool := s.1 == op && (s.2.1 == l && s.2.2.1 == r)

def opT (op l r : Int) : Option Int := if op = 19 ∨ op = 20 then (if l = r then some 1 else none) else (sigs.find? (sigB op l r)).map fun s => s.2.2.2

/-- how many values an instruction pops -/
def popV (op : Int) : Nat := if op = 1 ∨ op = 2 ∨ op = 3 ∨ op = 22 ∨ op = 24 then 0 else if op = 4 ∨ op = 5 ∨ op = 6 ∨ op = 7 ∨ op = 23 ∨ op = 25 then 1 else 2

def attrT (n : Int) : Int := if n < 2 then 3 else if n < 4 then 2 else 4

def topV (st : List Int) : Int := st.getLast?.getD 0

def atV (l : List Int) (x : Int) : Int := l.getD x.toNat 0

def rangeV (np S M at_ : Nat) (i : Is1) : Bool :=
  if i.op = 1 then decide (i.arg < np) else if i.op = 2 then decide (i.arg < 6) else if i.op = 3 ∨ i.op = 4 then decide (i.arg < S) else if i.op = 22 ∨ i.op = 23 then decide ((at_ : Int) < i.arg ∧ i.arg < M) else true

/-- the type of an operator's result, if its operands fit -/
def resV (op : Int) (st : List Int) : Option Int := if popV op = 1 then opT (op + 3) (topV st) 0 else opT (op + 3) (st.getD (st.length - 2) 0) (topV st)

def takesV (i : Is1) (s : Vs) : Bool :=
  if i.op = 1 ∨ i.op = 2 ∨ i.op = 3 ∨ i.op = 22 ∨ i.op = 24 then true
  else if i.op = 4 then decide (atV s.slots i.arg = 0 ∨ atV s.slots i.arg = topV s.stack)
  else if i.op = 23 then decide (topV s.stack = 1)
  else if i.op = 25 then decide (topV s.stack = 4)
  else (resV i.op s.stack).isSome

def pushV (PK : List Int) (i : Is1) (s : Vs) : Int :=
  if i.op = 1 then atV PK i.arg else if i.op = 2 then attrT i.arg else if i.op = 3 then atV s.slots i.arg
  else if i.op = 4 ∨ i.op = 22 ∨ i.op = 23 ∨ i.op = 24 ∨ i.op = 25 then 0 else (resV i.op s.stack).getD 0

def behindV (PK : List Int) (i : Is1) (s : Vs) : Vs :=
  if i.op = 4 then ⟨s.stack.take (s.stack.length - 1), s.slots.set i.arg.toNat (topV s.stack)⟩
  else if pushV PK i s = 0 then ⟨s.stack.take (s.stack.length - popV i.op), s.slots⟩
  else ⟨s.stack.take (s.stack.length - popV i.op) ++ [pushV PK i s], s.slots⟩

/-- what is wrong at a place (0: nothing), and the state behind it -/
def stepV (PK : List Int) (S M at_ : Nat) (i : Is1) (s : Vs) : Int × Vs :=
  if rangeV PK.length S M at_ i = false then (3, s)
  else if s.stack.length < popV i.op then (4, s)
  else if takesV i s = false then (5, s)
  else if i.op = 3 ∧ atV s.slots i.arg = 0 then (6, s)
  else if 100 < (behindV PK i s).stack.length then (7, s)
  else (0, behindV PK i s)

def nextV (at_ : Nat) (i : Is1) : List Nat := if i.op = 24 ∨ i.op = 25 then [] else if i.op = 22 then [i.arg.toNat] else if i.op = 23 then [at_ + 1, i.arg.toNat] else [at_ + 1]

/-- the state is made known where it goes on -/
def goV (t : Vs) : List Nat → List (Option Vs) → Int × List (Option Vs)
  | [], k => (0, k)
  | n :: ns, k => if n = k.length then (8, k) else match k.getD n none with
    | none => goV t ns (k.set n (some t))
    | some u => if u = t then goV t ns k else (9, k)

def runV (PK : List Int) (S : Nat) (I : List Is1) : Nat → Nat → List (Option Vs) → Nat → Int × Int
  | 0, _, _, b => ((b : Int), 0)
  | r + 1, at_, k, b => match k.getD at_ none with
    | none => (0, 2)
    | some s =>
      if (stepV PK S I.length at_ (I.getD at_ ⟨0, 0⟩) s).1 ≠ 0 then (0, (stepV PK S I.length at_ (I.getD at_ ⟨0, 0⟩) s).1)
      else if (goV (stepV PK S I.length at_ (I.getD at_ ⟨0, 0⟩) s).2 (nextV at_ (I.getD at_ ⟨0, 0⟩)) k).1 ≠ 0 then (0, (goV (stepV PK S I.length at_ (I.getD at_ ⟨0, 0⟩) s).2 (nextV at_ (I.getD at_ ⟨0, 0⟩)) k).1)
      else runV PK S I r (at_ + 1) (goV (stepV PK S I.length at_ (I.getD at_ ⟨0, 0⟩) s).2 (nextV at_ (I.getD at_ ⟨0, 0⟩)) k).2 (max b (max s.stack.length (stepV PK S I.length at_ (I.getD at_ ⟨0, 0⟩) s).2.stack.length))

/-- what the verifier says of a code -/
def verR (P : List Vl) (s : Int) (I : List Is1) : Int × Int :=
  if shapB P s I = false then (0, 1) else if I = [] then (0, 8)
  else runV (P.map Vl.kind) s.toNat I I.length 0 ((List.replicate I.length none).set 0 (some ⟨[], List.replicate s.toNat 0⟩)) 0

theorem goV_len (t : Vs) : ∀ (ns : List Nat) (k : List (Option Vs)), (goV t ns k).2.length = k.length
  | [], k => rfl
  | n :: ns, k => by
    rw [goV]
    split
    · rfl
    split
    · rw [goV_len t ns]; simp
    split
    · exact goV_len t ns k
    · rfl

/-- the bar on a stack's height keeps it small -/
theorem stepV_height {PK : List Int} {S M at_ : Nat} {i : Is1} {s : Vs} (h : (stepV PK S M at_ i s).1 = 0) : (stepV PK S M at_ i s).2.stack.length ≤ 100 := by
  unfold stepV at *
  split at h
  · cases h
  split at h
  · cases h
  split at h
  · cases h
  split at h
  · cases h
  split at h
  · cases h
  · rename_i h1 h2 h3 h4 h5
    rw [if_neg h1, if_neg h2, if_neg h3, if_neg h4, if_neg h5]
    show (behindV PK i s).stack.length ≤ 100
    omega

theorem stepV_slots {PK : List Int} {S M at_ : Nat} {i : Is1} {s : Vs} : (stepV PK S M at_ i s).2.slots.length = s.slots.length := by
  have hb : (behindV PK i s).slots.length = s.slots.length := by
    unfold behindV
    split
    · simp
    split <;> rfl
  unfold stepV
  repeat' split
  all_goals first | rfl | exact hb

/-- each operator's line of the table -/
theorem opT_bin (op l r : Int) (h0 : 11 ≤ op) (h1 : op ≤ 24) : opT op l r =
    if op ≤ 15 then (if l = 2 ∧ r = 2 then some 2 else none)
    else if op ≤ 18 then (if l = 4 ∧ r = 4 then some 4 else none)
    else if op ≤ 20 then (if l = r then some 1 else none)
    else if op ≤ 22 then (if l = 2 ∧ r = 2 then some 1 else none)
    else if op = 23 then (if l = 3 ∧ r = 4 then some 1 else none)
    else (if l = 4 ∧ r = 4 then some 1 else none) := by
  have : op = 11 ∨ op = 12 ∨ op = 13 ∨ op = 14 ∨ op = 15 ∨ op = 16 ∨ op = 17 ∨ op = 18 ∨ op = 19 ∨ op = 20 ∨ op = 21 ∨ op = 22 ∨ op = 23 ∨ op = 24 := by omega
  rcases this with rfl | rfl | rfl | rfl | rfl | rfl | rfl | rfl | rfl | rfl | rfl | rfl | rfl | rfl
  case inr.inr.inr.inr.inr.inr.inr.inr.inl => simp [opT]
  case inr.inr.inr.inr.inr.inr.inr.inr.inr.inl => simp [opT]
  all_goals
    simp only [opT, sigs, sigB, List.find?]
    simp
    split <;> rename_i hh <;> simp at hh
    · rw [if_pos (by constructor <;> omega)]; rfl
    · rw [if_neg (by omega)]; rfl

theorem opT_un (op l : Int) (h0 : 8 ≤ op) (h1 : op ≤ 10) : opT op l 0 = if op = 8 then (if l = 2 then some 2 else none) else if op = 9 then (if l = 1 then some 1 else none) else (if l = 4 then some 2 else none) := by
  have : op = 8 ∨ op = 9 ∨ op = 10 := by omega
  rcases this with rfl | rfl | rfl
  all_goals
    simp only [opT, sigs, sigB, List.find?]
    simp
    split <;> rename_i hh <;> simp at hh
    · rw [if_pos (by omega)]; rfl
    · rw [if_neg (by omega)]; rfl

end Go.Proofs.YtogenboibgddaaaGreatDoor

namespace Go.Proofs.YtogenboibgddaaaGreatDoor
open Go.RowKit
set_option linter.unusedVariables false

/-- the cells of the table of signatures -/
def sigV : Array Value := #[.int .i64 8, .int .i64 2, .int .i64 0, .int .i64 2, .int .i64 9, .int .i64 1, .int .i64 0, .int .i64 1, .int .i64 10, .int .i64 4, .int .i64 0, .int .i64 2, .int .i64 11, .int .i64 2, .int .i64 2, .int .i64 2, .int .i64 12, .int .i64 2, .int .i64 2, .int .i64 2, .int .i64 13, .int .i64 2, .int .i64 2, .int .i64 2, .int .i64 14, .int .i64 2, .int .i64 2, .int .i64 2, .int .i64 15, .int .i64 2, .int .i64 2, .int .i64 2, .int .i64 16, .int .i64 4, .int .i64 4, .int .i64 4, .int .i64 17, .int .i64 4, .int .i64 4, .int .i64 4, .int .i64 18, .int .i64 4, .int .i64 4, .int .i64 4, .int .i64 21, .int .i64 2, .int .i64 2, .int .i64 1, .int .i64 22, .int .i64 2, .int .i64 2, .int .i64 1, .int .i64 23, .int .i64 3, .int .i64 4, .int .i64 1, .int .i64 24, .int .i64 4, .int .i64 4, .int .i64 1, .int .i64 25, .int .i64 1, .int .i64 1, .int .i64 1, .int .i64 26, .int .i64 1, .int .i64 1, .int .i64 1]

theorem sigV_row : ∀ k, k < 17 → sigV.extract (k * 4) (k * 4 + 4) = #[.int .i64 (sigs.getD k (0, 0, 0, 0)).1, .int .i64 (sigs.getD k (0, 0, 0, 0)).2.1, .int .i64 (sigs.getD k (0, 0, 0, 0)).2.2.1, .int .i64 (sigs.getD k (0, 0, 0, 0)).2.2.2]
  | 0, _ => rfl
  | 1, _ => rfl
  | 2, _ => rfl
  | 3, _ => rfl
  | 4, _ => rfl
  | 5, _ => rfl
  | 6, _ => rfl
  | 7, _ => rfl
  | 8, _ => rfl
  | 9, _ => rfl
  | 10, _ => rfl
  | 11, _ => rfl
  | 12, _ => rfl
  | 13, _ => rfl
  | 14, _ => rfl
  | 15, _ => rfl
  | 16, _ => rfl
  | n + 17, h => absurd h (by omega)

/-- the cells of the table of attributes -/
def attV : Array Value := #[.string ⟨#[99, 108, 105, 101, 110, 116]⟩, .int .i64 3, .string ⟨#[117, 115, 101, 114]⟩, .int .i64 3, .string ⟨#[108, 101, 118, 101, 108]⟩, .int .i64 2, .string ⟨#[110, 111, 119]⟩, .int .i64 2, .string ⟨#[97, 115, 107, 101, 100]⟩, .int .i64 4, .string ⟨#[97, 103, 114, 101, 101, 100]⟩, .int .i64 4]

/-- the package's variables that the verifier looks at -/
structure Vok (w : World) (aT : Addr) : Prop where
  s : 5 < w.heap.size
  sc : ∀ k, w.cell? ⟨5, k, none⟩ = sigV[k]?
  a : 3 < w.heap.size
  ac : ∀ k, w.cell? ⟨3, k, none⟩ = attV[k]?
  e : 4 < w.heap.size
  ec : w.cell? ⟨4, 0, none⟩ = some (.iface 216 (.pointer (some aT)))

theorem Vok.below {w w' : World} {aT : Addr} {B : Nat} (h : Vok w aT) (hb : Below B w w') (hB : w.heap.size ≤ B) : Vok w' aT :=
  ⟨Nat.lt_of_lt_of_le h.s hb.size, fun k => (hb.cell (p := ⟨5, k, none⟩) (Nat.lt_of_lt_of_le h.s hB)).trans (h.sc k), Nat.lt_of_lt_of_le h.a hb.size, fun k => (hb.cell (p := ⟨3, k, none⟩) (Nat.lt_of_lt_of_le h.a hB)).trans (h.ac k), Nat.lt_of_lt_of_le h.e hb.size, (hb.cell (p := ⟨4, 0, none⟩) (Nat.lt_of_lt_of_le h.e hB)).trans h.ec⟩

/-- no error, or the error -/
def errY (b : Bool) (aT : Addr) : Value := match b with | true => .nilIface | false => .iface 216 (.pointer (some aT))

/-- a type and no error, or an error -/
def OtAns (o : Option Int) (aT : Addr) (e : Ending) : Prop := e = .returned (.tuple #[.int .i64 (o.getD 0), errY o.isSome aT])

theorem find_at (p : Int × Int × Int × Int → Bool) : ∀ (l : List (Int × Int × Int × Int)) (k : Nat) (h : k < l.length), (∀ j, j < k → (hj : j < l.length) → p l[j] = false) → p l[k] = true → l.find? p = some l[k]
  | x :: l, 0, _, _, hp => by simp at hp; simp [List.find?, hp]
  | x :: l, k + 1, h, hn, hp => by
    have h0 := hn 0 (by omega) (by simp)
    simp at h0
    rw [List.find?_cons_of_neg (by simp [h0])]
    have := find_at p l k (by simpa using h) (fun j hj hj' => by have := hn (j + 1) (by omega) (by simpa using hj'); simpa using this) (by simpa using hp)
    simpa using this

theorem find_no (p : Int × Int × Int × Int → Bool) (l : List (Int × Int × Int × Int)) (h : ∀ j, (hj : j < l.length) → p l[j] = false) : l.find? p = none := by
  rw [List.find?_eq_none]
  intro x hx
  obtain ⟨j, hj, rfl⟩ := List.getElem_of_mem hx
  rw [h j hj]; decide

set_option maxRecDepth 100000 in
set_option maxHeartbeats 6400000 in
theorem operationType_any (op l r : Int) (aT : Addr) (w : World) (h : Vok w aT) :
    Calls Tryz.prog 116 #[.int .i64 op, .int .i64 l, .int .i64 r] w fun e w' => OtAns (opT op l r) aT e ∧ Below w.heap.size w w' := by
  have ec := h.ec
  have HC := hide h.sc
  have He := hide h.e
  by_cases h19 : op = 19 ∨ op = 20
  · by_cases hlr : l = r
    · have HX := hide (show opT op l r = some 1 by rw [opT, if_pos h19, if_pos hlr])
      have elr : (l != r) = false := by simp [hlr]
      have el2 : (l == r) = true := beq_iff_eq.2 hlr
      clear h
      rcases h19 with rfl | rfl
      all_goals
        subst hlr
        go_enter Tryz.func116, Tryz.ntmps116
        go_wp2_with fail
        exact bodyPost_ret (v := .tuple #[.int .i64 1, .nilIface]) (by simp [results, Tryz.results116, go_sem]) rfl ⟨by rw [unhide HX]; rfl, Below.refl _ _⟩
    · have HX := hide (show opT op l r = none by rw [opT, if_pos h19, if_neg hlr])
      have elr : (l != r) = true := bne_iff_ne.2 hlr
      have el2 : (l == r) = false := beq_eq_false_iff_ne.2 hlr
      clear h hlr
      rcases h19 with rfl | rfl
      all_goals
        go_enter Tryz.func116, Tryz.ntmps116
        go_wp2_with fail
        go_region
        all_goals
          go_wp2_with fail
          exact bodyPost_ret (v := .tuple #[.int .i64 0, .iface 216 (.pointer (some aT))]) (by simp [results, Tryz.results116, go_sem]) rfl ⟨by rw [unhide HX]; rfl, (Below.refl _ _).drew⟩
  · have i19 : (op == 19) = false := beq_eq_false_iff_ne.2 (fun e => h19 (.inl e))
    have i20 : (op == 20) = false := beq_eq_false_iff_ne.2 (fun e => h19 (.inr e))
    have HX := hide (show opT op l r = (sigs.find? (sigB op l r)).map (fun s => s.2.2.2) by rw [opT, if_neg h19])
    clear h h19
    go_enter Tryz.func116, Tryz.ntmps116
    go_wp2_with (refine wpList_load_cells rfl 197 _ rfl 5 rfl sigV _ (unhide HC) Tryz.underlying197 rfl (by kernel_rfl) ?_)
    clear HC
    have hlen : sigs.length = 17 := rfl
    go_loopw [21] (fun i wr => ∃ k : Nat, k ≤ 17 ∧ i = .int .i64 k ∧ Below w.heap.size w wr ∧ ∀ j, j < k → (hj : j < sigs.length) → sigB op l r sigs[j] = false) (fun i _ => 17 - (intOf i).toNat)
    case atStart => exact ⟨0, by omega, rfl, Below.refl _ _, fun j h => absurd h (by omega)⟩
    case round =>
      obtain ⟨k, hk, rfl, B1, hn⟩ := hrel
      have Hn := hide hn
      clear hn
      have ec1 := (B1.cell (p := ⟨4, 0, none⟩) (unhide He)).trans ec
      by_cases hlt : k < 17
      · have ilt : (k : Int) < 17 := by omega
        have hkl : k < sigs.length := by omega
        have HR := hide (sigV_row k hlt)
        have Hlt := hide hlt
        have hg : sigs.getD k (0, 0, 0, 0) = sigs[k] := by rw [List.getD, List.getElem?_eq_getElem hkl]; rfl
        rw [hg] at HR
        have HE := hide (show sigB op l r sigs[k] = false → ∀ j, j < k + 1 → (hj : j < sigs.length) → sigB op l r sigs[j] = false from fun e j hj hj' => by
          by_cases ej : j = k
          · subst ej; exact e
          · exact unhide Hn j (by omega) hj')
        have HB := hide (show sigB op l r sigs[k] = true → opT op l r = some sigs[k].2.2.2 from fun e => by rw [unhide HX, find_at _ _ k hkl (unhide Hn) e]; rfl)
        clear hlt hg Hn
        generalize sigs[k] = s at HR HE HB
        obtain ⟨s0, s1, s2, s3⟩ := s
        simp only at HR HB
        have B2 := B1.alloc B1.size (.cells #[.int .i64 s0, .int .i64 s1, .int .i64 s2, .int .i64 s3] 196)
        have e0 : sigB op l r (s0, s1, s2, s3) = (s0 == op && (s1 == l && s2 == r)) := rfl
        by_cases h0 : s0 = op
        · by_cases h1 : s1 = l
          · by_cases h2 : s2 = r
            · subst h0 h1 h2
              have HF := hide (unhide HB (by rw [e0]; simp))
              clear HB HE e0
              go_wp2_with (refine wpList_index_agg rfl 197 _ _ rfl sigV rfl k rfl 17 196 Tryz.underlying197 (unhide Hlt) _ Tryz.underlying196 rfl 4 (by kernel_rfl) _ (unhide HR) ?_)
              exact bodyPost_ret (v := .tuple #[.int .i64 s3, .nilIface]) (by simp [results, Tryz.results116, go_sem]) rfl ⟨by rw [unhide HF]; rfl, B2⟩
            · have q0 : (s0 == op) = true := beq_iff_eq.2 h0
              have q1 : (s1 == l) = true := beq_iff_eq.2 h1
              have q2 : (s2 == r) = false := beq_eq_false_iff_ne.2 h2
              have HF := hide (unhide HE (by rw [e0, q2]; simp))
              clear HB HE e0 h0 h1 h2
              go_wp2_with (refine wpList_index_agg rfl 197 _ _ rfl sigV rfl k rfl 17 196 Tryz.underlying197 (unhide Hlt) _ Tryz.underlying196 rfl 4 (by kernel_rfl) _ (unhide HR) ?_)
              go_roundw
              case rel => exact ⟨k + 1, unhide Hlt, by go_num, B2, unhide HF⟩
              case measure => have := unhide Hlt; simp [intOf]; omega
          · have q0 : (s0 == op) = true := beq_iff_eq.2 h0
            have q1 : (s1 == l) = false := beq_eq_false_iff_ne.2 h1
            have HF := hide (unhide HE (by rw [e0, q1]; simp))
            clear HB HE e0 h0 h1
            go_wp2_with (refine wpList_index_agg rfl 197 _ _ rfl sigV rfl k rfl 17 196 Tryz.underlying197 (unhide Hlt) _ Tryz.underlying196 rfl 4 (by kernel_rfl) _ (unhide HR) ?_)
            go_roundw
            case rel => exact ⟨k + 1, unhide Hlt, by go_num, B2, unhide HF⟩
            case measure => have := unhide Hlt; simp [intOf]; omega
        · have q0 : (s0 == op) = false := beq_eq_false_iff_ne.2 h0
          have HF := hide (unhide HE (by rw [e0, q0]; simp))
          clear HB HE e0 h0
          go_wp2_with (refine wpList_index_agg rfl 197 _ _ rfl sigV rfl k rfl 17 196 Tryz.underlying197 (unhide Hlt) _ Tryz.underlying196 rfl 4 (by kernel_rfl) _ (unhide HR) ?_)
          go_roundw
          case rel => exact ⟨k + 1, unhide Hlt, by go_num, B2, unhide HF⟩
          case measure => have := unhide Hlt; simp [intOf]; omega
      · have e : k = 17 := by omega
        subst e
        have HF := hide (show opT op l r = none by rw [unhide HX, find_no _ _ (fun j hj => unhide Hn j (by omega) hj)]; rfl)
        clear Hn
        go_wp2_with fail
        go_region
        all_goals
          go_wp2_with fail
          exact bodyPost_ret (v := .tuple #[.int .i64 0, .iface 216 (.pointer (some aT))]) (by simp [results, Tryz.results116, go_sem]) rfl ⟨by rw [unhide HF]; rfl, B1.drew⟩

end Go.Proofs.YtogenboibgddaaaGreatDoor

/-
  The program's look at a code's shape; what the encoders give. Own work.
-/
import Derived.Test.YteefbljehlepjaaDoorEM
import Derived.Test.YteefbljehlepjaaDoorES0
namespace Go.Proofs.YteefbljehlepjaaDoor
open Go.RowKit Go.Lib
set_option linter.unusedVariables false


theorem flat_take_succ {α : Type} (f : α → List Int) (L : List α) (k : Nat) (h : k < L.length) : (L.take (k + 1)).flatMap f = (L.take k).flatMap f ++ f L[k] := by
  rw [List.take_succ_eq_append_getElem h, List.flatMap_append]
  simp

theorem flat_len {α : Type} (f : α → List Int) (m : Nat) : ∀ (L : List α), (∀ x ∈ L, (f x).length ≤ m) → (L.flatMap f).length ≤ m * L.length
  | [], _ => by simp
  | x :: L, h => by
    have h1 := flat_len f m L (fun y hy => h y (List.mem_cons_of_mem _ hy))
    have h2 := h x (List.mem_cons_self ..)
    rw [List.flatMap_cons, List.length_append, List.length_cons, Nat.mul_succ]
    omega

theorem rowV {w : World} {b : Nat} {v0 v1 v2 v3 : Value} {t : TypeId} (R : Row w b #[v0, v1, v2, v3] t) : w.cell? ⟨b, 0, none⟩ = some v0 ∧ w.cell? ⟨b, 1, none⟩ = some v1 ∧ w.cell? ⟨b, 2, none⟩ = some v2 ∧ w.cell? ⟨b, 3, none⟩ = some v3 :=
  ⟨by simpa using R.cell 0, by simpa using R.cell 1, by simpa using R.cell 2, by simpa using R.cell 3⟩

theorem rowC {w : World} {b : Nat} {v0 v1 v2 : Value} {t : TypeId} (R : Row w b #[v0, v1, v2] t) : w.cell? ⟨b, 0, none⟩ = some v0 ∧ w.cell? ⟨b, 1, none⟩ = some v1 ∧ w.cell? ⟨b, 2, none⟩ = some v2 :=
  ⟨by simpa using R.cell 0, by simpa using R.cell 1, by simpa using R.cell 2⟩

theorem insE_len (i : Is1) : (insE i).length = 3 := by rw [insE, List.length_append, beB_len, beB_len]



set_option maxHeartbeats 800000 in
theorem headerOf_any (a b : Option Addr) (n c m d : Nat) (s : Int) (w : World) (hn : n ≤ 1048576) (hm : m ≤ 1048576) :
    Calls Tryd.prog 30 #[.agg #[.slice a n c, .int .i64 s, .slice b m d]] w fun e w' => e = .returned (.agg #[.int .i64 n, .int .i64 s, .int .i64 m]) ∧ Below w.heap.size w w' := by
  go_enter Tryd.func30, Tryd.ntmps30
  go_wp2_with fail
  exact bodyPost_ret (v := .agg #[.int .i64 n, .int .i64 s, .int .i64 m]) (by simp [results, Tryd.results30, go_sem]) rfl ⟨rfl, ((Below.refl w.heap.size w).alloc (Nat.le_refl _) _).alloc (by simp) _⟩

set_option maxHeartbeats 800000 in
theorem fits_any (n m : Nat) (s : Int) (w : World) :
    Calls Tryd.prog 31 #[.agg #[.int .i64 n, .int .i64 s, .int .i64 m]] w fun e w' => e = .returned (.bool (decide (n ≤ 4000 ∧ m ≤ 20000 ∧ 0 ≤ s ∧ s ≤ 600))) ∧ Below w.heap.size w w' := by
  go_enter Tryd.func31, Tryd.ntmps31
  go_wp2
  all_goals
    go_ret
    refine ⟨ret_bool ?_, (Below.refl w.heap.size w).alloc (Nat.le_refl _) _⟩
    rw [Bool.eq_iff_iff]
    simp
    try omega

theorem all_at {α : Type} (p : α → Bool) (L : List α) : L.all p = true ↔ ∀ j, (h : j < L.length) → p L[j] = true := by
  rw [List.all_eq_true]
  constructor
  · intro h j hj; exact h _ (List.getElem_mem hj)
  · intro h x hx
    obtain ⟨j, hj, rfl⟩ := List.getElem_of_mem hx
    exact h j hj

set_option maxRecDepth 100000 in
set_option maxHeartbeats 3200000 in
theorem rightShape_any (a b : Option Addr) (n c m d : Nat) (s : Int) (P : List Vl) (I : List Is1) (w : World) (hV : Vls w a n c P) (hI : Iss w b m d I) :
    Calls Tryd.prog 17 #[.agg #[.slice a n c, .int .i64 s, .slice b m d]] w fun e w' => e = .returned (.bool (shapB P s I)) ∧ Below w.heap.size w w' := by
  have hn := hV.small
  have hm := hI.small
  have HP := hide hV.len
  have HI := hide hI.len
  have HF := hide (show shapB P s I = (decide (n ≤ 4000 ∧ m ≤ 20000 ∧ 0 ≤ s ∧ s ≤ 600) && P.all valB && I.all insB) by rw [shapB, hV.len, hI.len])
  have R0 := Row.new w #[.slice a n c, .int .i64 s, .slice b m d] 32
  have B0 := (Below.refl w.heap.size w).alloc (Nat.le_refl _) (.cells #[.slice a n c, .int .i64 s, .slice b m d] 32)
  have V0 := hV.below B0 (Nat.le_refl _)
  have I0 := hI.below B0 (Nat.le_refl _)
  generalize shapB P s I = FB at HF ⊢
  generalize hfit : decide (n ≤ 4000 ∧ m ≤ 20000 ∧ 0 ≤ s ∧ s ≤ 600) = ft at HF
  have Hft := hide hfit
  clear hfit
  go_enter Tryd.func17, Tryd.ntmps17
  cases ft
  · have HX := hide (show FB = false by rw [unhide HF]; rfl)
    go_wp2_with (first
      | (go_at_call 30; refine (headerOf_any _ _ _ _ _ _ _ _ hn hm).mono ?_; rintro e w2 ⟨rfl, hb2⟩)
      | (go_at_call 31; refine (fits_any _ _ _ _).mono ?_; rintro e w3 ⟨rfl, hb3⟩; rw [unhide Hft]))
    go_ret
    exact ⟨ret_bool (unhide HX).symm, B0.trans ((hb2.trans (hb3.mono hb2.size)).mono B0.size)⟩
  · have HG := hide (show FB = (P.all valB && I.all insB) by rw [unhide HF, Bool.true_and])
    clear HF
    go_wp2_with (first
      | (go_at_call 30; refine (headerOf_any _ _ _ _ _ _ _ _ hn hm).mono ?_; rintro e w2 ⟨rfl, hb2⟩)
      | (go_at_call 31; refine (fits_any _ _ _ _).mono ?_; rintro e w3 ⟨rfl, hb3⟩; rw [unhide Hft]; have hb3' := hb2.trans (hb3.mono hb2.size); obtain ⟨q0, q1, q2⟩ := rowC (R0.after hb3' (Nat.le_refl _))))
    have E3 := B0.trans (hb3'.mono B0.size)
    clear hb2 hb3 V0 I0
    go_loopw [14] (fun i wr => ∃ k : Nat, k ≤ n ∧ i = .int .i64 k ∧ Below w.heap.size w wr ∧ Row wr w.heap.size #[.slice a n c, .int .i64 s, .slice b m d] 32 ∧ Hid (∀ j, (hj : j < P.length) → j < k → valB P[j] = true)) (fun i _ => n - (intOf i).toNat)
    case atStart => exact ⟨0, Nat.zero_le _, rfl, E3, R0.after hb3' (Nat.le_refl _), hide (fun j _ h => absurd h (by omega))⟩
    case round =>
      obtain ⟨k, hk, rfl, B1, R1, Ha⟩ := hrel
      clear q0 q1 q2 hb3' E3
      by_cases hlt : k < n
      · have ilt : (k : Int) < (n : Int) := by omega
        have hkl : k < P.length := by rw [unhide HP]; exact hlt
        have hsz := hV.sizes P[k] (List.getElem_mem hkl)
        obtain ⟨b', off, rfl, hbl, an, nn, cn, y0, y1, y2, y3, hN⟩ := (hV.below B1 (Nat.le_refl _)).cells k hkl
        have Hno := hide (show valB P[k] = false → FB = false from fun e => by
          rw [unhide HG, show P.all valB = false by rw [← Bool.not_eq_true, all_at]; intro h; rw [h k hkl] at e; cases e]
          rfl)
        have HY := hide (show valB P[k] = true → ∀ j, (hj : j < P.length) → j < k + 1 → valB P[j] = true from fun e j hj h' => by
          by_cases ej : j = k
          · subst ej; exact e
          · exact unhide Ha j hj (by omega))
        have Hlt := hide hlt
        clear Ha
        generalize P[k] = z at y0 y1 y2 y3 hsz hN Hno HY
        have B2 := B1.alloc B1.size (.cells #[.int .i64 z.kind, .int .i64 z.num, .string z.text, .slice an nn cn] 61)
        have C2 := (Below.refl wr.heap.size wr).alloc (Nat.le_refl _) (.cells #[.int .i64 z.kind, .int .i64 z.num, .string z.text, .slice an nn cn] 61)
        have N2 := hN.below C2 (Nat.le_refl _)
        have R2 := R1.after C2 (Nat.le_refl _)
        cases hv : valB z
        · have HX := hide (unhide Hno hv)
          have Hv := hide hv
          clear hv Hno HY
          go_wp2_with (go_at_call 32; refine (validValue_any z an nn cn _ N2 hsz).mono ?_; rintro e w4 ⟨rfl, hb4⟩; rw [unhide Hv])
          go_ret
          exact ⟨ret_bool (unhide HX).symm, B2.trans (hb4.mono B2.size)⟩
        · have HY2 := hide (unhide HY hv)
          have Hv := hide hv
          clear hv Hno HY
          go_wp2_with (go_at_call 32; refine (validValue_any z an nn cn _ N2 hsz).mono ?_; rintro e w4 ⟨rfl, hb4⟩; rw [unhide Hv])
          go_roundw
          case rel => exact ⟨k + 1, unhide Hlt, by go_num, B2.trans (hb4.mono B2.size), R2.after hb4 (Nat.le_refl _), HY2⟩
          case measure => have := unhide Hlt; simp [intOf]; omega
      · have HA := hide (show FB = I.all insB by rw [unhide HG, (all_at valB P).2 (fun j hj => unhide Ha j hj (by have := unhide HP; omega)), Bool.true_and])
        have ilt : ¬ ((k : Int) < (n : Int)) := by omega
        obtain ⟨q0, q1, q2⟩ := rowC R1
        have HB1 := hide B1
        clear Ha HG B1
        go_wp2_with fail
        go_loopw [25] (fun i wr => ∃ k : Nat, k ≤ m ∧ i = .int .i64 k ∧ Below w.heap.size w wr ∧ Hid (∀ j, (hj : j < I.length) → j < k → insB I[j] = true)) (fun i _ => m - (intOf i).toNat)
        case atStart => exact ⟨0, Nat.zero_le _, rfl, unhide HB1, hide (fun j _ h => absurd h (by omega))⟩
        case round =>
          obtain ⟨k2, hk2, rfl, B1, Ha⟩ := hrel
          clear R1 q0 q1 q2
          by_cases hlt : k2 < m
          · have ilt : (k2 : Int) < (m : Int) := by omega
            have hkl : k2 < I.length := by rw [unhide HI]; exact hlt
            obtain ⟨b', off, rfl, hbl, y0, y1⟩ := (hI.below B1 (Nat.le_refl _)).cells k2 hkl
            have Hno := hide (show insB I[k2] = false → FB = false from fun e => by
              rw [unhide HA, ← Bool.not_eq_true, all_at]
              intro h
              rw [h k2 hkl] at e
              cases e)
            have HY := hide (show insB I[k2] = true → ∀ j, (hj : j < I.length) → j < k2 + 1 → insB I[j] = true from fun e j hj h' => by
              by_cases ej : j = k2
              · subst ej; exact e
              · exact unhide Ha j hj (by omega))
            have Hlt := hide hlt
            clear Ha
            generalize I[k2] = z at y0 y1 Hno HY
            have B2 := B1.alloc B1.size (.cells #[.int .i64 z.op, .int .i64 z.arg] 64)
            cases hv : insB z
            · have HX := hide (unhide Hno hv)
              have Hv := hide hv
              clear hv Hno HY
              go_wp2_with (go_at_call 33; refine (validIns_any z _).mono ?_; rintro e w4 ⟨rfl, hb4⟩; rw [unhide Hv])
              go_ret
              exact ⟨ret_bool (unhide HX).symm, B2.trans (hb4.mono B2.size)⟩
            · have HY2 := hide (unhide HY hv)
              have Hv := hide hv
              clear hv Hno HY
              go_wp2_with (go_at_call 33; refine (validIns_any z _).mono ?_; rintro e w4 ⟨rfl, hb4⟩; rw [unhide Hv])
              go_roundw
              case rel => exact ⟨k2 + 1, unhide Hlt, by go_num, B2.trans (hb4.mono B2.size), HY2⟩
              case measure => have := unhide Hlt; simp [intOf]; omega
          · have HX := hide (show FB = true by rw [unhide HA]; exact (all_at insB I).2 (fun j hj => unhide Ha j hj (by have := unhide HI; omega)))
            have ilt : ¬ ((k2 : Int) < (m : Int)) := by omega
            clear Ha
            go_wp2_with fail
            go_ret
            exact ⟨ret_bool (unhide HX).symm, B1⟩

theorem ownsRow_low' {w : World} {base base' : Nat} {e : TypeId} {size : Nat} {v : Value} {n : Nat} {xs : List Value} (h : w.ownsRow base e size v n xs) (hb : base' ≤ base) : w.ownsRow base' e size v n xs := by
  refine ⟨h.1, ?_⟩
  rcases h.2 with hn | ⟨g, cap, cur, hv, h1, h2, h3⟩
  · exact .inl hn
  · exact .inr ⟨g, cap, cur, hv, by omega, h2, h3⟩

/-- what the encoders give -/
def encR (P : List Vl) (s : Int) (I : List Is1) : List Int := if shapB P s I then codeE P s I else []

def EncAns (w : World) (R : List Int) (e : Ending) (w' : World) : Prop := ∃ v, e = .returned v ∧ w'.ownsRow w.heap.size 5 1 v R.length (bytesV R) ∧ Below w.heap.size w w'

theorem encR_len (P : List Vl) (s : Int) (I : List Is1) : (encR P s I).length ≤ 20000000 := by
  rw [encR]
  split
  · rename_i h
    rw [shapB, Bool.and_eq_true, Bool.and_eq_true] at h
    have h1 := of_decide_eq_true h.1.1
    have h2 := flat_len valE 4000 P (fun x hx => valE_len (List.all_eq_true.1 h.1.2 x hx))
    have h3 := flat_len insE 3 I (fun x _ => by rw [insE_len]; exact Nat.le_refl _)
    rw [codeE]
    simp only [List.length_append, beB_len, List.length_cons, List.length_nil]
    omega
  · simp

end Go.Proofs.YteefbljehlepjaaDoor

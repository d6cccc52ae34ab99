/-
  The program's encoder. Own work.
-/
import Derived.Test.YtnbeodlgmdenlaaEX1
namespace Go.Proofs.Ytnbeodlgmdenlaa
open Go.RowKit Go.Lib
set_option linter.unusedVariables false

set_option maxHeartbeats 800000 in
theorem headerOf_any (a b : Option Addr) (n c m d : Nat) (s : Int) (w : World) (hn : n ≤ 1048576) (hm : m ≤ 1048576) :
    Calls Try.prog 21 #[.agg #[.slice a n c, .int .i64 s, .slice b m d]] w fun e w' => e = .returned (.agg #[.int .i64 n, .int .i64 s, .int .i64 m]) ∧ Below w.heap.size w w' := by
  go_enter Try.func21, Try.ntmps21
  go_wp2_with fail
  exact bodyPost_ret (v := .agg #[.int .i64 n, .int .i64 s, .int .i64 m]) (by simp [results, Try.results21, go_sem]) rfl ⟨rfl, ((Below.refl w.heap.size w).alloc (Nat.le_refl _) _).alloc (by simp) _⟩

set_option maxHeartbeats 800000 in
theorem fits_any (n m : Nat) (s : Int) (w : World) :
    Calls Try.prog 32 #[.agg #[.int .i64 n, .int .i64 s, .int .i64 m]] w fun e w' => e = .returned (.bool (decide (n ≤ 4000 ∧ m ≤ 20000 ∧ 0 ≤ s ∧ s ≤ 600))) ∧ Below w.heap.size w w' := by
  go_enter Try.func32, Try.ntmps32
  go_wp2
  all_goals
    go_ret
    refine ⟨ret_bool ?_, (Below.refl w.heap.size w).alloc (Nat.le_refl _) _⟩
    rw [Bool.eq_iff_iff]
    simp
    try omega

theorem all_at {α : Type} (p : α → Bool) (L : List α) : L.all p = true ↔ ∀ j, (h : j < L.length) → p L[j] = true := by
  rw [List.all_eq_true]
  constructor
  · intro h j hj; exact h _ (List.getElem_mem hj)
  · intro h x hx
    obtain ⟨j, hj, rfl⟩ := List.getElem_of_mem hx
    exact h j hj

set_option maxRecDepth 100000 in
set_option maxHeartbeats 3200000 in
theorem rightShape_any (a b : Option Addr) (n c m d : Nat) (s : Int) (P : List Vl) (I : List Is1) (w : World) (hV : Vls w a n c P) (hI : Iss w b m d I) :
    Calls Try.prog 20 #[.agg #[.slice a n c, .int .i64 s, .slice b m d]] w fun e w' => e = .returned (.bool (shapB P s I)) ∧ Below w.heap.size w w' := by
  have hn := hV.small
  have hm := hI.small
  have HP := hide hV.len
  have HI := hide hI.len
  have HF := hide (show shapB P s I = (decide (n ≤ 4000 ∧ m ≤ 20000 ∧ 0 ≤ s ∧ s ≤ 600) && P.all valB && I.all insB) by rw [shapB, hV.len, hI.len])
  have R0 := Row.new w #[.slice a n c, .int .i64 s, .slice b m d] 32
  have B0 := (Below.refl w.heap.size w).alloc (Nat.le_refl _) (.cells #[.slice a n c, .int .i64 s, .slice b m d] 32)
  have V0 := hV.below B0 (Nat.le_refl _)
  have I0 := hI.below B0 (Nat.le_refl _)
  generalize shapB P s I = FB at HF ⊢
  generalize hfit : decide (n ≤ 4000 ∧ m ≤ 20000 ∧ 0 ≤ s ∧ s ≤ 600) = ft at HF
  have Hft := hide hfit
  clear hfit
  go_enter Try.func20, Try.ntmps20
  cases ft
  · have HX := hide (show FB = false by rw [unhide HF]; rfl)
    go_wp2_with (first
      | (go_at_call 21; refine (headerOf_any _ _ _ _ _ _ _ _ hn hm).mono ?_; rintro e w2 ⟨rfl, hb2⟩)
      | (go_at_call 32; refine (fits_any _ _ _ _).mono ?_; rintro e w3 ⟨rfl, hb3⟩; rw [unhide Hft]))
    go_ret
    exact ⟨ret_bool (unhide HX).symm, B0.trans ((hb2.trans (hb3.mono hb2.size)).mono B0.size)⟩
  · have HG := hide (show FB = (P.all valB && I.all insB) by rw [unhide HF, Bool.true_and])
    clear HF
    go_wp2_with (first
      | (go_at_call 21; refine (headerOf_any _ _ _ _ _ _ _ _ hn hm).mono ?_; rintro e w2 ⟨rfl, hb2⟩)
      | (go_at_call 32; refine (fits_any _ _ _ _).mono ?_; rintro e w3 ⟨rfl, hb3⟩; rw [unhide Hft]; have hb3' := hb2.trans (hb3.mono hb2.size); obtain ⟨q0, q1, q2⟩ := rowC (R0.after hb3' (Nat.le_refl _))))
    have E3 := B0.trans (hb3'.mono B0.size)
    clear hb2 hb3 V0 I0
    go_loopw [14] (fun i wr => ∃ k : Nat, k ≤ n ∧ i = .int .i64 k ∧ Below w.heap.size w wr ∧ Row wr w.heap.size #[.slice a n c, .int .i64 s, .slice b m d] 32 ∧ Hid (∀ j, (hj : j < P.length) → j < k → valB P[j] = true)) (fun i _ => n - (intOf i).toNat)
    case atStart => exact ⟨0, Nat.zero_le _, rfl, E3, R0.after hb3' (Nat.le_refl _), hide (fun j _ h => absurd h (by omega))⟩
    case round =>
      obtain ⟨k, hk, rfl, B1, R1, Ha⟩ := hrel
      clear q0 q1 q2 hb3' E3
      by_cases hlt : k < n
      · have ilt : (k : Int) < (n : Int) := by omega
        have hkl : k < P.length := by rw [unhide HP]; exact hlt
        have hsz := hV.sizes P[k] (List.getElem_mem hkl)
        obtain ⟨b', off, rfl, hbl, an, nn, cn, y0, y1, y2, y3, hN⟩ := (hV.below B1 (Nat.le_refl _)).cells k hkl
        have Hno := hide (show valB P[k] = false → FB = false from fun e => by
          rw [unhide HG, show P.all valB = false by rw [← Bool.not_eq_true, all_at]; intro h; rw [h k hkl] at e; cases e]
          rfl)
        have HY := hide (show valB P[k] = true → ∀ j, (hj : j < P.length) → j < k + 1 → valB P[j] = true from fun e j hj h' => by
          by_cases ej : j = k
          · subst ej; exact e
          · exact unhide Ha j hj (by omega))
        have Hlt := hide hlt
        clear Ha
        generalize P[k] = z at y0 y1 y2 y3 hsz hN Hno HY
        have B2 := B1.alloc B1.size (.cells #[.int .i64 z.kind, .int .i64 z.num, .string z.text, .slice an nn cn] 45)
        have C2 := (Below.refl wr.heap.size wr).alloc (Nat.le_refl _) (.cells #[.int .i64 z.kind, .int .i64 z.num, .string z.text, .slice an nn cn] 45)
        have N2 := hN.below C2 (Nat.le_refl _)
        have R2 := R1.after C2 (Nat.le_refl _)
        cases hv : valB z
        · have HX := hide (unhide Hno hv)
          have Hv := hide hv
          clear hv Hno HY
          go_wp2_with (go_at_call 33; refine (validValue_any z an nn cn _ N2 hsz).mono ?_; rintro e w4 ⟨rfl, hb4⟩; rw [unhide Hv])
          go_ret
          exact ⟨ret_bool (unhide HX).symm, B2.trans (hb4.mono B2.size)⟩
        · have HY2 := hide (unhide HY hv)
          have Hv := hide hv
          clear hv Hno HY
          go_wp2_with (go_at_call 33; refine (validValue_any z an nn cn _ N2 hsz).mono ?_; rintro e w4 ⟨rfl, hb4⟩; rw [unhide Hv])
          go_roundw
          case rel => exact ⟨k + 1, unhide Hlt, by go_num, B2.trans (hb4.mono B2.size), R2.after hb4 (Nat.le_refl _), HY2⟩
          case measure => have := unhide Hlt; simp [intOf]; omega
      · have HA := hide (show FB = I.all insB by rw [unhide HG, (all_at valB P).2 (fun j hj => unhide Ha j hj (by have := unhide HP; omega)), Bool.true_and])
        have ilt : ¬ ((k : Int) < (n : Int)) := by omega
        obtain ⟨q0, q1, q2⟩ := rowC R1
        have HB1 := hide B1
        clear Ha HG B1
        go_wp2_with fail
        go_loopw [25] (fun i wr => ∃ k : Nat, k ≤ m ∧ i = .int .i64 k ∧ Below w.heap.size w wr ∧ Hid (∀ j, (hj : j < I.length) → j < k → insB I[j] = true)) (fun i _ => m - (intOf i).toNat)
        case atStart => exact ⟨0, Nat.zero_le _, rfl, unhide HB1, hide (fun j _ h => absurd h (by omega))⟩
        case round =>
          obtain ⟨k2, hk2, rfl, B1, Ha⟩ := hrel
          clear R1 q0 q1 q2
          by_cases hlt : k2 < m
          · have ilt : (k2 : Int) < (m : Int) := by omega
            have hkl : k2 < I.length := by rw [unhide HI]; exact hlt
            obtain ⟨b', off, rfl, hbl, y0, y1⟩ := (hI.below B1 (Nat.le_refl _)).cells k2 hkl
            have Hno := hide (show insB I[k2] = false → FB = false from fun e => by
              rw [unhide HA, ← Bool.not_eq_true, all_at]
              intro h
              rw [h k2 hkl] at e
              cases e)
            have HY := hide (show insB I[k2] = true → ∀ j, (hj : j < I.length) → j < k2 + 1 → insB I[j] = true from fun e j hj h' => by
              by_cases ej : j = k2
              · subst ej; exact e
              · exact unhide Ha j hj (by omega))
            have Hlt := hide hlt
            clear Ha
            generalize I[k2] = z at y0 y1 Hno HY
            have B2 := B1.alloc B1.size (.cells #[.int .i64 z.op, .int .i64 z.arg] 50)
            cases hv : insB z
            · have HX := hide (unhide Hno hv)
              have Hv := hide hv
              clear hv Hno HY
              go_wp2_with (go_at_call 34; refine (validIns_any z _).mono ?_; rintro e w4 ⟨rfl, hb4⟩; rw [unhide Hv])
              go_ret
              exact ⟨ret_bool (unhide HX).symm, B2.trans (hb4.mono B2.size)⟩
            · have HY2 := hide (unhide HY hv)
              have Hv := hide hv
              clear hv Hno HY
              go_wp2_with (go_at_call 34; refine (validIns_any z _).mono ?_; rintro e w4 ⟨rfl, hb4⟩; rw [unhide Hv])
              go_roundw
              case rel => exact ⟨k2 + 1, unhide Hlt, by go_num, B2.trans (hb4.mono B2.size), HY2⟩
              case measure => have := unhide Hlt; simp [intOf]; omega
          · have HX := hide (show FB = true by rw [unhide HA]; exact (all_at insB I).2 (fun j hj => unhide Ha j hj (by have := unhide HI; omega)))
            have ilt : ¬ ((k2 : Int) < (m : Int)) := by omega
            clear Ha
            go_wp2_with fail
            go_ret
            exact ⟨ret_bool (unhide HX).symm, B1⟩

theorem ownsRow_low' {w : World} {base base' : Nat} {e : TypeId} {size : Nat} {v : Value} {n : Nat} {xs : List Value} (h : w.ownsRow base e size v n xs) (hb : base' ≤ base) : w.ownsRow base' e size v n xs := by
  refine ⟨h.1, ?_⟩
  rcases h.2 with hn | ⟨g, cap, cur, hv, h1, h2, h3⟩
  · exact .inl hn
  · exact .inr ⟨g, cap, cur, hv, by omega, h2, h3⟩

/-- what the encoders give -/
def encR (P : List Vl) (s : Int) (I : List Is1) : List Int := if shapB P s I then codeE P s I else []

def EncAns (w : World) (R : List Int) (e : Ending) (w' : World) : Prop := ∃ v, e = .returned v ∧ w'.ownsRow w.heap.size 5 1 v R.length (bytesV R) ∧ Below w.heap.size w w'

set_option maxRecDepth 100000 in
set_option maxHeartbeats 3200000 in
theorem iEncode_any (a b : Option Addr) (n c m d : Nat) (s : Int) (P : List Vl) (I : List Is1) (w : World) (hV : Vls w a n c P) (hI : Iss w b m d I) :
    Calls Try.prog 7 #[.agg #[.slice a n c, .int .i64 s, .slice b m d]] w fun e w' => EncAns w (encR P s I) e w' := by
  have hn := hV.small
  have hm := hI.small
  have HS := hide (show shapB P s I = true → n ≤ 4000 ∧ m ≤ 20000 ∧ P.all valB = true from fun h => by
    rw [shapB, Bool.and_eq_true, Bool.and_eq_true, hV.len, hI.len] at h
    have := of_decide_eq_true h.1.1
    exact ⟨this.1, this.2.1, h.1.2⟩)
  have HR := hide (show encR P s I = if shapB P s I then codeE P s I else [] from rfl)
  have R0 := Row.new w #[.slice a n c, .int .i64 s, .slice b m d] 32
  have B0 := (Below.refl w.heap.size w).alloc (Nat.le_refl _) (.cells #[.slice a n c, .int .i64 s, .slice b m d] 32)
  have V0 := hV.below B0 (Nat.le_refl _)
  have I0 := hI.below B0 (Nat.le_refl _)
  generalize hsh : shapB P s I = sh at HS HR
  have Hsh := hide hsh
  clear hsh
  go_enter Try.func7, Try.ntmps7
  cases sh
  · have HX := hide (show encR P s I = [] by rw [unhide HR]; rfl)
    go_wp2_with (go_at_call 20; refine (rightShape_any _ _ _ _ _ _ _ P I _ V0 I0).mono ?_; rintro e w2 ⟨rfl, hb2⟩; rw [unhide Hsh])
    go_ret
    exact ⟨_, rfl, by rw [unhide HX]; exact World.ownsRow_nil _ _ _ _, B0.trans (hb2.mono B0.size)⟩
  · have HX := hide (show encR P s I = codeE P s I by rw [unhide HR]; rfl)
    obtain ⟨hn4, hm2, hok⟩ := unhide HS rfl
    go_wp2_with (first
      | (go_at_call 20; refine (rightShape_any _ _ _ _ _ _ _ P I _ V0 I0).mono ?_; rintro e w2 ⟨rfl, hb2⟩; rw [unhide Hsh]; obtain ⟨q0, q1, q2⟩ := rowC (R0.after hb2 (Nat.le_refl _)))
      | (go_at_call 21; refine (headerOf_any _ _ _ _ _ _ _ _ hn hm).mono ?_; rintro e w3 ⟨rfl, hb3⟩; have hb3' := hb2.trans (hb3.mono hb2.size); obtain ⟨p0, p1, p2⟩ := rowC (R0.after hb3' (Nat.le_refl _)); have z3 := (R0.after hb3' (Nat.le_refl _)).lt; obtain ⟨r0, r1, r2⟩ := rowC ((R0.after hb3' (Nat.le_refl _)).alloc (.cells #[.int .i64 n, .int .i64 s, .int .i64 m, .slice none 0 0] 57))))
    have E3 := B0.trans (hb3'.mono B0.size)
    have C3 := (Below.refl w3.heap.size w3).alloc (Nat.le_refl _) (.cells #[.int .i64 n, .int .i64 s, .int .i64 m, .slice none 0 0] 57)
    have WW : Wr (w3.alloc (.cells #[.int .i64 n, .int .i64 s, .int .i64 m, .slice none 0 0] 57)) w3.heap.size n s m (.slice none 0 0) [] := ⟨Row.new w3 _ _, World.ownsRow_nil _ _ _ _⟩
    refine (code_any w3.heap.size s _ a b n c m d P I w3 _ WW (V0.below hb3' (Nat.le_refl _)) (I0.below hb3' (Nat.le_refl _)) (Nat.le_refl _) C3 hn4 hm2 hok).mono ?_
    rintro e w5 ⟨rfl, v5, W5, K5, B5⟩
    obtain ⟨x5, c5, rfl⟩ := bytes_form W5.own
    obtain ⟨t0, t1, t2, t3⟩ := rowV W5.row
    go_wp2_with fail
    go_ret
    refine ⟨_, rfl, ?_, E3.trans ((C3.trans B5).mono E3.size)⟩
    rw [unhide HX]
    exact ownsRow_low' W5.own (by have := E3.size; omega)

end Go.Proofs.Ytnbeodlgmdenlaa

/-
  The program's look at all typed nodes. Own work.
-/
import Derived.Test.YtpbopjgmiaoomaaGreatDoorMXAI
import Derived.Test.YtpbopjgmiaoomaaGreatDoorMXAL
namespace Go.Proofs.YtpbopjgmiaoomaaGreatDoor
open Go.RowKit
set_option linter.unusedVariables false
set_option linter.unusedSimpArgs false

theorem fieldsT_tf (x : Nd) : fieldsT x = (decide ((x.kids.length : Int) = kidN x.op) && tfB x) := rfl

theorem allT_iff_at (L : List Nd) : L.all fieldsT = true ↔ ∀ j, (h : j < L.length) → fieldsT L[j] = true := by
  rw [List.all_eq_true]
  constructor
  · intro h j hj; exact h _ (List.getElem_mem hj)
  · intro h x hx
    obtain ⟨j, hj, rfl⟩ := List.getElem_of_mem hx
    exact h j hj

set_option maxRecDepth 100000 in
set_option maxHeartbeats 6400000 in
theorem validNodesT_any (a : Option Addr) (n c : Nat) (L : List Nd) (w : World) (h : Nds w a n c L) (hT : TabOK w) :
    Calls Tryz.prog 78 #[.slice a n c, .func (.func 52) #[] #[]] w fun e w' => e = .returned (.bool (L.all fieldsT)) ∧ Below w.heap.size w w' := by
  have hn := h.small
  have HL := hide h.len
  go_enter Tryz.func78, Tryz.ntmps78
  go_wp2_with fail
  go_loopw [9] (fun i wr => ∃ k : Nat, k ≤ n ∧ i = .int .i64 k ∧ Below w.heap.size w wr ∧ ∀ j, (hj : j < L.length) → j < k → fieldsT L[j] = true) (fun i _ => n - (intOf i).toNat)
  case atStart => exact ⟨0, by omega, rfl, Below.refl _ _, fun j hj h => absurd h (by omega)⟩
  case round =>
    obtain ⟨k, hk, rfl, B1, hal⟩ := hrel
    have Ha := hide hal
    clear hal
    by_cases hlt : k < n
    · have ilt : (k : Int) < (n : Int) := by omega
      have hkl : k < L.length := by rw [unhide HL]; exact hlt
      have hsz := h.sizes L[k] (List.getElem_mem hkl)
      obtain ⟨b, off, rfl, hb, an, nn, cn, ak, nk, ck, c0, c1, c2, c3, c4, hN, hK⟩ := (h.below B1 (Nat.le_refl _)).cells k hkl
      have hT1 := hT.below B1 (Nat.le_refl _)
      have Hno := hide (show fieldsT L[k] = false → L.all fieldsT = false from fun e => by
        rw [← Bool.not_eq_true, allT_iff_at]
        intro k'
        rw [k' k hkl] at e
        cases e)
      have HN := hide (show fieldsT L[k] = true → ∀ j, (hj : j < L.length) → j < k + 1 → fieldsT L[j] = true from fun e j hj h' => by
        by_cases ej : j = k
        · subst ej; exact e
        · exact unhide Ha j hj (by omega))
      have Hlt := hide hlt
      clear Ha
      generalize L[k] = x at c0 c1 c2 c3 c4 hN hK hsz Hno HN
      have HF := hide (fieldsT_tf x)
      have HKL := hide hK.len
      have R1 := Row.new wr #[.int .i64 x.op, .int .i64 x.num, .string x.text, .slice an nn cn, .slice ak nk ck] 103
      have B2 := B1.alloc B1.size (.cells #[.int .i64 x.op, .int .i64 x.num, .string x.text, .slice an nn cn, .slice ak nk ck] 103)
      have C2 := (Below.refl wr.heap.size wr).alloc (Nat.le_refl _) (.cells #[.int .i64 x.op, .int .i64 x.num, .string x.text, .slice an nn cn, .slice ak nk ck] 103)
      have N2 := hN.below C2 (Nat.le_refl _)
      have T2 := hT1.below C2 (Nat.le_refl _)
      clear hN hT1 hK
      by_cases hkk : (nk : Int) = kidN x.op
      · have ek : ((nk : Int) != kidN x.op) = false := by rw [hkk]; simp
        cases hv : tfB x
        · have HX := hide (unhide Hno (by rw [unhide HF, hv, Bool.and_false]))
          have Hv := hide hv
          clear hv hkk Hno HN
          go_wp2_with fail
          have D1 : Below (wr.alloc (.cells #[.int .i64 x.op, .int .i64 x.num, .string x.text, .slice an nn cn, .slice ak nk ck] 103)).heap.size (wr.alloc (.cells #[.int .i64 x.op, .int .i64 x.num, .string x.text, .slice an nn cn, .slice ak nk ck] 103)) (wr.alloc (.cells #[.int .i64 x.op, .int .i64 x.num, .string x.text, .slice an nn cn, .slice ak nk ck] 103)).drew := (Below.refl _ _).drew
          have q1 := nd_all R1 D1
          go_region_held3 (fun w' => w'.cell? ⟨wr.heap.size, 0, none⟩ = some (.int .i64 x.op) ∧ w'.cell? ⟨wr.heap.size, 1, none⟩ = some (.int .i64 x.num) ∧ w'.cell? ⟨wr.heap.size, 2, none⟩ = some (.string x.text) ∧ w'.cell? ⟨wr.heap.size, 3, none⟩ = some (.slice an nn cn) ∧ w'.cell? ⟨wr.heap.size, 4, none⟩ = some (.slice ak nk ck)) (first | assumption | go_keep)
            (first
              | (go_at_call 98; refine (kidCount_any _ _ (T2.below D1 (Nat.le_refl _)).lt (T2.below D1 (Nat.le_refl _)).cells).mono ?_; rintro e w2 ⟨rfl, hb2⟩; have B3 := D1.trans (hb2.mono (Nat.le_refl _)); have q2 := nd_all R1 B3)
              | (go_at_call 52; refine (typedFields_any x an nn cn ak nk ck _ (N2.below B3 (Nat.le_refl _)) hsz).mono ?_; rintro e w3 ⟨rfl, hb3⟩; rw [unhide Hv]; have B4 := B3.trans (hb3.mono B3.size); have q3 := nd_all R1 B4))
          go_wp2_with fail
          go_ret
          exact ⟨ret_bool (unhide HX).symm, B2.trans (B4.mono B2.size)⟩
        · have HY := hide (unhide HN (by rw [unhide HF, hv, unhide HKL, decide_eq_true hkk]; rfl))
          have Hv := hide hv
          clear hv hkk Hno HN
          go_wp2_with fail
          have D1 : Below (wr.alloc (.cells #[.int .i64 x.op, .int .i64 x.num, .string x.text, .slice an nn cn, .slice ak nk ck] 103)).heap.size (wr.alloc (.cells #[.int .i64 x.op, .int .i64 x.num, .string x.text, .slice an nn cn, .slice ak nk ck] 103)) (wr.alloc (.cells #[.int .i64 x.op, .int .i64 x.num, .string x.text, .slice an nn cn, .slice ak nk ck] 103)).drew := (Below.refl _ _).drew
          have q1 := nd_all R1 D1
          go_region_held3 (fun w' => w'.cell? ⟨wr.heap.size, 0, none⟩ = some (.int .i64 x.op) ∧ w'.cell? ⟨wr.heap.size, 1, none⟩ = some (.int .i64 x.num) ∧ w'.cell? ⟨wr.heap.size, 2, none⟩ = some (.string x.text) ∧ w'.cell? ⟨wr.heap.size, 3, none⟩ = some (.slice an nn cn) ∧ w'.cell? ⟨wr.heap.size, 4, none⟩ = some (.slice ak nk ck)) (first | assumption | go_keep)
            (first
              | (go_at_call 98; refine (kidCount_any _ _ (T2.below D1 (Nat.le_refl _)).lt (T2.below D1 (Nat.le_refl _)).cells).mono ?_; rintro e w2 ⟨rfl, hb2⟩; have B3 := D1.trans (hb2.mono (Nat.le_refl _)); have q2 := nd_all R1 B3)
              | (go_at_call 52; refine (typedFields_any x an nn cn ak nk ck _ (N2.below B3 (Nat.le_refl _)) hsz).mono ?_; rintro e w3 ⟨rfl, hb3⟩; rw [unhide Hv]; have B4 := B3.trans (hb3.mono B3.size); have q3 := nd_all R1 B4))
          go_wp2_with fail
          go_roundw
          case rel => exact ⟨k + 1, unhide Hlt, by go_num, B2.trans (B4.mono B2.size), unhide HY⟩
          case measure => have := unhide Hlt; simp [intOf]; omega
      · have ek : ((nk : Int) != kidN x.op) = true := bne_iff_ne.2 hkk
        have HX := hide (unhide Hno (by rw [unhide HF, unhide HKL, decide_eq_false hkk]; rfl))
        clear hkk Hno HN
        go_wp2_with fail
        have D1 : Below (wr.alloc (.cells #[.int .i64 x.op, .int .i64 x.num, .string x.text, .slice an nn cn, .slice ak nk ck] 103)).heap.size (wr.alloc (.cells #[.int .i64 x.op, .int .i64 x.num, .string x.text, .slice an nn cn, .slice ak nk ck] 103)) (wr.alloc (.cells #[.int .i64 x.op, .int .i64 x.num, .string x.text, .slice an nn cn, .slice ak nk ck] 103)).drew := (Below.refl _ _).drew
        have q1 := nd_all R1 D1
        refine wp_region_held_drew (S := (fun w' => w'.cell? ⟨wr.heap.size, 0, none⟩ = some (.int .i64 x.op) ∧ w'.cell? ⟨wr.heap.size, 1, none⟩ = some (.int .i64 x.num) ∧ w'.cell? ⟨wr.heap.size, 2, none⟩ = some (.string x.text) ∧ w'.cell? ⟨wr.heap.size, 3, none⟩ = some (.slice an nn cn) ∧ w'.cell? ⟨wr.heap.size, 4, none⟩ = some (.slice ak nk ck))) rfl q1 (fun hH => ?_)
        refine wpAnyH_take (i := 0) (v := .pointer (some ⟨wr.heap.size, 4, none⟩)) rfl (by kernel_rfl) (by kernel_rfl) (by kernel_rfl) (fun _ _ _ h => h) (Or.inl ⟨rfl, fun w' hSw => by (try dsimp only at hSw); go_simp⟩) (by assumption) ?_
        simp only [Act.put, List.setIfInBounds_toArray, List.set_cons_zero, List.set_cons_succ]
        refine wpAnyH_take (i := 1) (v := .slice ak nk ck) rfl (by kernel_rfl) (by kernel_rfl) (by kernel_rfl) (fun _ _ _ h => h) (Or.inl ⟨rfl, fun w' hSw => by (try dsimp only at hSw); go_simp⟩) (by assumption) ?_
        simp only [Act.put, List.setIfInBounds_toArray, List.set_cons_zero, List.set_cons_succ]
        refine wpAnyH_take (i := 2) (v := .int .i64 nk) rfl (by kernel_rfl) (by kernel_rfl) (by kernel_rfl) (fun _ _ _ h => h) (Or.inl ⟨rfl, fun w' hSw => by (try dsimp only at hSw); go_simp⟩) (by assumption) ?_
        simp only [Act.put, List.setIfInBounds_toArray, List.set_cons_zero, List.set_cons_succ]
        refine wpAnyH_take (i := 3) (v := .pointer (some ⟨wr.heap.size, 0, none⟩)) rfl (by kernel_rfl) (by kernel_rfl) (by kernel_rfl) (fun _ _ _ h => h) (Or.inl ⟨rfl, fun w' hSw => by (try dsimp only at hSw); go_simp⟩) (by assumption) ?_
        simp only [Act.put, List.setIfInBounds_toArray, List.set_cons_zero, List.set_cons_succ]
        refine wpAnyH_take (i := 4) (v := .int .i64 x.op) rfl (by kernel_rfl) (by kernel_rfl) (by kernel_rfl) (fun _ _ _ h => h) (Or.inl ⟨rfl, fun w' hSw => by (try dsimp only at hSw); go_simp⟩) (by assumption) ?_
        simp only [Act.put, List.setIfInBounds_toArray, List.set_cons_zero, List.set_cons_succ]
        refine wpAnyH_ready (rs := [5]) (by kernel_rfl) (by simp) ?_
        refine AllReadyH.cons rfl (fun K hK => ?_) AllReadyH.nil
        go_simp
        go_at_call 98
        refine (kidCount_any _ _ (T2.below D1 (Nat.le_refl _)).lt (T2.below D1 (Nat.le_refl _)).cells).mono ?_
        rintro e w2 ⟨rfl, hb2⟩
        have B3 := D1.trans (hb2.mono (Nat.le_refl _))
        have q2 := nd_all R1 B3
        refine hK.out _ _ q2 (fun hHeld => ?_)
        refine wpAnyH_take (i := 6) (v := .bool true) rfl (by kernel_rfl) (by kernel_rfl) (by kernel_rfl) (fun _ _ _ h => h) (Or.inl ⟨rfl, fun w' hSw => by (try dsimp only at hSw); go_simp⟩) (by assumption) ?_
        simp only [Act.put, List.setIfInBounds_toArray, List.set_cons_zero, List.set_cons_succ]
        refine wpAnyH_take (i := 7) (v := .bool true) rfl (by kernel_rfl) (by kernel_rfl) (by kernel_rfl) (fun _ _ _ h => h) (Or.inl ⟨rfl, fun w' hSw => by (try dsimp only at hSw); go_simp⟩) (by assumption) ?_
        simp only [Act.put, List.setIfInBounds_toArray, List.set_cons_zero, List.set_cons_succ]
        refine wpAnyH_take (i := 8) (v := undef) rfl (by kernel_rfl) (by kernel_rfl) (by kernel_rfl) (fun _ _ _ h => h) (Or.inr ⟨rfl, rfl⟩) (by assumption) ?_
        simp only [Act.put, List.setIfInBounds_toArray, List.set_cons_zero, List.set_cons_succ]
        refine wpAnyH_take (i := 9) (v := undef) rfl (by kernel_rfl) (by kernel_rfl) (by kernel_rfl) (fun _ _ _ h => h) (Or.inr ⟨rfl, rfl⟩) (by assumption) ?_
        simp only [Act.put, List.setIfInBounds_toArray, List.set_cons_zero, List.set_cons_succ]
        refine wpAnyH_take (i := 10) (v := undef) rfl (by kernel_rfl) (by kernel_rfl) (by kernel_rfl) (fun _ _ _ h => h) (Or.inr ⟨rfl, rfl⟩) (by assumption) ?_
        simp only [Act.put, List.setIfInBounds_toArray, List.set_cons_zero, List.set_cons_succ]
        refine wpAnyH_take (i := 11) (v := undef) rfl (by kernel_rfl) (by kernel_rfl) (by kernel_rfl) (fun _ _ _ h => h) (Or.inr ⟨rfl, rfl⟩) (by assumption) ?_
        simp only [Act.put, List.setIfInBounds_toArray, List.set_cons_zero, List.set_cons_succ]
        refine wpAnyH_take (i := 12) (v := .bool true) rfl (by kernel_rfl) (by kernel_rfl) (by kernel_rfl) (fun _ _ _ h => h) (Or.inl ⟨rfl, fun w' hSw => by (try dsimp only at hSw); go_simp⟩) (by assumption) ?_
        simp only [Act.put, List.setIfInBounds_toArray, List.set_cons_zero, List.set_cons_succ]
        refine wpAnyH_done (by kernel_rfl) ?_ _
        go_wp2_with fail
        go_ret
        exact ⟨ret_bool (unhide HX).symm, B2.trans (B3.mono B2.size)⟩
    · have e : k = n := by omega
      subst e
      have Hall := hide (show L.all fieldsT = true from (allT_iff_at L).2 (fun j hj => unhide Ha j hj (by have := unhide HL; omega)))
      go_wp2
      go_ret
      exact ⟨ret_bool (unhide Hall).symm, B1⟩

end Go.Proofs.YtpbopjgmiaoomaaGreatDoor

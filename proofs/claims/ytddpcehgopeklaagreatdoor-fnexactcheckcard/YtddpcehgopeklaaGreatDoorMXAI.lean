/-
  ZC, JA, VPJ, VPU. Own work.
-/
import Derived.Test.YtddpcehgopeklaaGreatDoorMXAH
import Derived.Test.YtddpcehgopeklaaGreatDoorMXAL
import Derived.Test.YtddpcehgopeklaaGreatDoorMXAO
namespace Go.Proofs.YtddpcehgopeklaaGreatDoor
open Go.RowKit
set_option linter.unusedVariables false

theorem typeL_un (op a : Int) (h : 8 ≤ op ∧ op ≤ 10) : typeL op [a] = tyOp op [a] := by
  have : op = 8 ∨ op = 9 ∨ op = 10 := by omega
  rcases this with rfl | rfl | rfl
  · by_cases h : a = 2 <;> simp [typeL, rowL, tyOp, fitL, h]
  · by_cases h : a = 1 <;> simp [typeL, rowL, tyOp, fitL, h]
  · by_cases h : a = 4 <;> simp [typeL, rowL, tyOp, fitL, h]

theorem typeL_bin (op a b : Int) (h : 11 ≤ op ∧ op ≤ 26) (ha : a ≠ 0) : typeL op [a, b] = tyOp op [a, b] := by
  have : op = 11 ∨ op = 12 ∨ op = 13 ∨ op = 14 ∨ op = 15 ∨ op = 16 ∨ op = 17 ∨ op = 18 ∨ op = 19 ∨ op = 20 ∨ op = 21 ∨ op = 22 ∨ op = 23 ∨ op = 24 ∨ op = 25 ∨ op = 26 := by omega
  rcases this with rfl | rfl | rfl | rfl | rfl | rfl | rfl | rfl | rfl | rfl | rfl | rfl | rfl | rfl | rfl | rfl
  all_goals
    first
      | (by_cases e : b = a
         · subst e; simp [typeL, rowL, tyOp, fitL, ha]; done
         · have e2 : a ≠ b := fun k => e k.symm
           simp [typeL, rowL, tyOp, fitL, ha, e, e2]; done)
      | (by_cases k1 : a = 1 <;> by_cases k2 : b = 1 <;> simp [typeL, rowL, tyOp, fitL, k1, k2]; done)
      | (by_cases k1 : a = 2 <;> by_cases k2 : b = 2 <;> simp [typeL, rowL, tyOp, fitL, k1, k2]; done)
      | (by_cases k1 : a = 4 <;> by_cases k2 : b = 4 <;> simp [typeL, rowL, tyOp, fitL, k1, k2]; done)
      | (by_cases k1 : a = 3 <;> by_cases k2 : b = 4 <;> simp [typeL, rowL, tyOp, fitL, k1, k2]; done)

theorem typeL_ite (a b c : Int) (hb : b ≠ 0) : typeL 27 [a, b, c] = tyOp 27 [a, b, c] := by
  simp [typeL, rowL, tyOp, fitL, hb]
  by_cases h1 : a = 1 <;> by_cases h2 : c = b <;> simp_all <;> omega

end Go.Proofs.YtddpcehgopeklaaGreatDoor

namespace Go.Proofs.YtddpcehgopeklaaGreatDoor
open Go.RowKit
set_option linter.unusedVariables false

end Go.Proofs.YtddpcehgopeklaaGreatDoor

namespace Go.Proofs.YtddpcehgopeklaaGreatDoor
open Go.RowKit
set_option linter.unusedVariables false
set_option linter.unusedSimpArgs false

set_option maxRecDepth 100000 in
set_option maxHeartbeats 6400000 in
theorem validNodes_any (a : Option Addr) (n c : Nat) (L : List Nd) (w : World) (h : Nds w a n c L) (hT : TabOK w) :
    Calls Tryz.prog 85 #[.slice a n c, .func (.func 64) #[] #[]] w fun e w' => e = .returned (.bool (L.all fieldsB)) ∧ Below w.heap.size w w' := by
  have hn := h.small
  have HL := hide h.len
  go_enter Tryz.func85, Tryz.ntmps85
  go_wp2_with fail
  go_loopw [9] (fun i wr => ∃ k : Nat, k ≤ n ∧ i = .int .i64 k ∧ Below w.heap.size w wr ∧ ∀ j, (hj : j < L.length) → j < k → fieldsB L[j] = true) (fun i _ => n - (intOf i).toNat)
  case atStart => exact ⟨0, by omega, rfl, Below.refl _ _, fun j hj h => absurd h (by omega)⟩
  case round =>
    obtain ⟨k, hk, rfl, B1, hal⟩ := hrel
    have Ha := hide hal
    clear hal
    by_cases hlt : k < n
    · have ilt : (k : Int) < (n : Int) := by omega
      have hkl : k < L.length := by rw [unhide HL]; exact hlt
      have hsz := h.sizes L[k] (List.getElem_mem hkl)
      obtain ⟨b, off, rfl, hb, an, nn, cn, ak, nk, ck, c0, c1, c2, c3, c4, hN, hK⟩ := (h.below B1 (Nat.le_refl _)).cells k hkl
      have hT1 := hT.below B1 (Nat.le_refl _)
      have Hno := hide (show fieldsB L[k] = false → L.all fieldsB = false from fun e => by
        rw [← Bool.not_eq_true, all_iff_at]
        intro k'
        rw [k' k hkl] at e
        cases e)
      have HN := hide (show fieldsB L[k] = true → ∀ j, (hj : j < L.length) → j < k + 1 → fieldsB L[j] = true from fun e j hj h' => by
        by_cases ej : j = k
        · subst ej; exact e
        · exact unhide Ha j hj (by omega))
      have Hlt := hide hlt
      clear Ha
      generalize L[k] = x at c0 c1 c2 c3 c4 hN hK hsz Hno HN
      have HF := hide (fieldsB_wf x)
      have HKL := hide hK.len
      have R1 := Row.new wr #[.int .i64 x.op, .int .i64 x.num, .string x.text, .slice an nn cn, .slice ak nk ck] 53
      have B2 := B1.alloc B1.size (.cells #[.int .i64 x.op, .int .i64 x.num, .string x.text, .slice an nn cn, .slice ak nk ck] 53)
      have C2 := (Below.refl wr.heap.size wr).alloc (Nat.le_refl _) (.cells #[.int .i64 x.op, .int .i64 x.num, .string x.text, .slice an nn cn, .slice ak nk ck] 53)
      have N2 := hN.below C2 (Nat.le_refl _)
      have T2 := hT1.below C2 (Nat.le_refl _)
      clear hN hT1 hK
      by_cases hkk : (nk : Int) = kidN x.op
      · have ek : ((nk : Int) != kidN x.op) = false := by rw [hkk]; simp
        cases hv : wfB x
        · have HX := hide (unhide Hno (by rw [unhide HF, hv, Bool.and_false]))
          have Hv := hide hv
          clear hv hkk Hno HN
          go_wp2_with fail
          have D1 : Below (wr.alloc (.cells #[.int .i64 x.op, .int .i64 x.num, .string x.text, .slice an nn cn, .slice ak nk ck] 53)).heap.size (wr.alloc (.cells #[.int .i64 x.op, .int .i64 x.num, .string x.text, .slice an nn cn, .slice ak nk ck] 53)) (wr.alloc (.cells #[.int .i64 x.op, .int .i64 x.num, .string x.text, .slice an nn cn, .slice ak nk ck] 53)).drew := (Below.refl _ _).drew
          have q1 := nd_all R1 D1
          go_region_held3 (fun w' => w'.cell? ⟨wr.heap.size, 0, none⟩ = some (.int .i64 x.op) ∧ w'.cell? ⟨wr.heap.size, 1, none⟩ = some (.int .i64 x.num) ∧ w'.cell? ⟨wr.heap.size, 2, none⟩ = some (.string x.text) ∧ w'.cell? ⟨wr.heap.size, 3, none⟩ = some (.slice an nn cn) ∧ w'.cell? ⟨wr.heap.size, 4, none⟩ = some (.slice ak nk ck)) (first | assumption | go_keep)
            (first
              | (go_at_call 105; refine (kidCount_any _ _ (T2.below D1 (Nat.le_refl _)).lt (T2.below D1 (Nat.le_refl _)).cells).mono ?_; rintro e w2 ⟨rfl, hb2⟩; have B3 := D1.trans (hb2.mono (Nat.le_refl _)); have q2 := nd_all R1 B3)
              | (go_at_call 64; refine (writtenFields_any x an nn cn ak nk ck _ (N2.below B3 (Nat.le_refl _)) hsz).mono ?_; rintro e w3 ⟨rfl, hb3⟩; rw [unhide Hv]; have B4 := B3.trans (hb3.mono B3.size); have q3 := nd_all R1 B4))
          go_wp2_with fail
          go_ret
          exact ⟨ret_bool (unhide HX).symm, B2.trans (B4.mono B2.size)⟩
        · have HY := hide (unhide HN (by rw [unhide HF, hv, unhide HKL, decide_eq_true hkk]; rfl))
          have Hv := hide hv
          clear hv hkk Hno HN
          go_wp2_with fail
          have D1 : Below (wr.alloc (.cells #[.int .i64 x.op, .int .i64 x.num, .string x.text, .slice an nn cn, .slice ak nk ck] 53)).heap.size (wr.alloc (.cells #[.int .i64 x.op, .int .i64 x.num, .string x.text, .slice an nn cn, .slice ak nk ck] 53)) (wr.alloc (.cells #[.int .i64 x.op, .int .i64 x.num, .string x.text, .slice an nn cn, .slice ak nk ck] 53)).drew := (Below.refl _ _).drew
          have q1 := nd_all R1 D1
          go_region_held3 (fun w' => w'.cell? ⟨wr.heap.size, 0, none⟩ = some (.int .i64 x.op) ∧ w'.cell? ⟨wr.heap.size, 1, none⟩ = some (.int .i64 x.num) ∧ w'.cell? ⟨wr.heap.size, 2, none⟩ = some (.string x.text) ∧ w'.cell? ⟨wr.heap.size, 3, none⟩ = some (.slice an nn cn) ∧ w'.cell? ⟨wr.heap.size, 4, none⟩ = some (.slice ak nk ck)) (first | assumption | go_keep)
            (first
              | (go_at_call 105; refine (kidCount_any _ _ (T2.below D1 (Nat.le_refl _)).lt (T2.below D1 (Nat.le_refl _)).cells).mono ?_; rintro e w2 ⟨rfl, hb2⟩; have B3 := D1.trans (hb2.mono (Nat.le_refl _)); have q2 := nd_all R1 B3)
              | (go_at_call 64; refine (writtenFields_any x an nn cn ak nk ck _ (N2.below B3 (Nat.le_refl _)) hsz).mono ?_; rintro e w3 ⟨rfl, hb3⟩; rw [unhide Hv]; have B4 := B3.trans (hb3.mono B3.size); have q3 := nd_all R1 B4))
          go_wp2_with fail
          go_roundw
          case rel => exact ⟨k + 1, unhide Hlt, by go_num, B2.trans (B4.mono B2.size), unhide HY⟩
          case measure => have := unhide Hlt; simp [intOf]; omega
      · have ek : ((nk : Int) != kidN x.op) = true := bne_iff_ne.2 hkk
        have HX := hide (unhide Hno (by rw [unhide HF, unhide HKL, decide_eq_false hkk]; rfl))
        clear hkk Hno HN
        go_wp2_with fail
        have D1 : Below (wr.alloc (.cells #[.int .i64 x.op, .int .i64 x.num, .string x.text, .slice an nn cn, .slice ak nk ck] 53)).heap.size (wr.alloc (.cells #[.int .i64 x.op, .int .i64 x.num, .string x.text, .slice an nn cn, .slice ak nk ck] 53)) (wr.alloc (.cells #[.int .i64 x.op, .int .i64 x.num, .string x.text, .slice an nn cn, .slice ak nk ck] 53)).drew := (Below.refl _ _).drew
        have q1 := nd_all R1 D1
        refine wp_region_held_drew (S := (fun w' => w'.cell? ⟨wr.heap.size, 0, none⟩ = some (.int .i64 x.op) ∧ w'.cell? ⟨wr.heap.size, 1, none⟩ = some (.int .i64 x.num) ∧ w'.cell? ⟨wr.heap.size, 2, none⟩ = some (.string x.text) ∧ w'.cell? ⟨wr.heap.size, 3, none⟩ = some (.slice an nn cn) ∧ w'.cell? ⟨wr.heap.size, 4, none⟩ = some (.slice ak nk ck))) rfl q1 (fun hH => ?_)
        refine wpAnyH_take (i := 0) (v := .pointer (some ⟨wr.heap.size, 4, none⟩)) rfl (by kernel_rfl) (by kernel_rfl) (by kernel_rfl) (fun _ _ _ h => h) (Or.inl ⟨rfl, fun w' hSw => by (try dsimp only at hSw); go_simp⟩) (by assumption) ?_
        simp only [Act.put, List.setIfInBounds_toArray, List.set_cons_zero, List.set_cons_succ]
        refine wpAnyH_take (i := 1) (v := .slice ak nk ck) rfl (by kernel_rfl) (by kernel_rfl) (by kernel_rfl) (fun _ _ _ h => h) (Or.inl ⟨rfl, fun w' hSw => by (try dsimp only at hSw); go_simp⟩) (by assumption) ?_
        simp only [Act.put, List.setIfInBounds_toArray, List.set_cons_zero, List.set_cons_succ]
        refine wpAnyH_take (i := 2) (v := .int .i64 nk) rfl (by kernel_rfl) (by kernel_rfl) (by kernel_rfl) (fun _ _ _ h => h) (Or.inl ⟨rfl, fun w' hSw => by (try dsimp only at hSw); go_simp⟩) (by assumption) ?_
        simp only [Act.put, List.setIfInBounds_toArray, List.set_cons_zero, List.set_cons_succ]
        refine wpAnyH_take (i := 3) (v := .pointer (some ⟨wr.heap.size, 0, none⟩)) rfl (by kernel_rfl) (by kernel_rfl) (by kernel_rfl) (fun _ _ _ h => h) (Or.inl ⟨rfl, fun w' hSw => by (try dsimp only at hSw); go_simp⟩) (by assumption) ?_
        simp only [Act.put, List.setIfInBounds_toArray, List.set_cons_zero, List.set_cons_succ]
        refine wpAnyH_take (i := 4) (v := .int .i64 x.op) rfl (by kernel_rfl) (by kernel_rfl) (by kernel_rfl) (fun _ _ _ h => h) (Or.inl ⟨rfl, fun w' hSw => by (try dsimp only at hSw); go_simp⟩) (by assumption) ?_
        simp only [Act.put, List.setIfInBounds_toArray, List.set_cons_zero, List.set_cons_succ]
        refine wpAnyH_ready (rs := [5]) (by kernel_rfl) (by simp) ?_
        refine AllReadyH.cons rfl (fun K hK => ?_) AllReadyH.nil
        go_simp
        go_at_call 105
        refine (kidCount_any _ _ (T2.below D1 (Nat.le_refl _)).lt (T2.below D1 (Nat.le_refl _)).cells).mono ?_
        rintro e w2 ⟨rfl, hb2⟩
        have B3 := D1.trans (hb2.mono (Nat.le_refl _))
        have q2 := nd_all R1 B3
        refine hK.out _ _ q2 (fun hHeld => ?_)
        refine wpAnyH_take (i := 6) (v := .bool true) rfl (by kernel_rfl) (by kernel_rfl) (by kernel_rfl) (fun _ _ _ h => h) (Or.inl ⟨rfl, fun w' hSw => by (try dsimp only at hSw); go_simp⟩) (by assumption) ?_
        simp only [Act.put, List.setIfInBounds_toArray, List.set_cons_zero, List.set_cons_succ]
        refine wpAnyH_take (i := 7) (v := .bool true) rfl (by kernel_rfl) (by kernel_rfl) (by kernel_rfl) (fun _ _ _ h => h) (Or.inl ⟨rfl, fun w' hSw => by (try dsimp only at hSw); go_simp⟩) (by assumption) ?_
        simp only [Act.put, List.setIfInBounds_toArray, List.set_cons_zero, List.set_cons_succ]
        refine wpAnyH_take (i := 8) (v := undef) rfl (by kernel_rfl) (by kernel_rfl) (by kernel_rfl) (fun _ _ _ h => h) (Or.inr ⟨rfl, rfl⟩) (by assumption) ?_
        simp only [Act.put, List.setIfInBounds_toArray, List.set_cons_zero, List.set_cons_succ]
        refine wpAnyH_take (i := 9) (v := undef) rfl (by kernel_rfl) (by kernel_rfl) (by kernel_rfl) (fun _ _ _ h => h) (Or.inr ⟨rfl, rfl⟩) (by assumption) ?_
        simp only [Act.put, List.setIfInBounds_toArray, List.set_cons_zero, List.set_cons_succ]
        refine wpAnyH_take (i := 10) (v := undef) rfl (by kernel_rfl) (by kernel_rfl) (by kernel_rfl) (fun _ _ _ h => h) (Or.inr ⟨rfl, rfl⟩) (by assumption) ?_
        simp only [Act.put, List.setIfInBounds_toArray, List.set_cons_zero, List.set_cons_succ]
        refine wpAnyH_take (i := 11) (v := undef) rfl (by kernel_rfl) (by kernel_rfl) (by kernel_rfl) (fun _ _ _ h => h) (Or.inr ⟨rfl, rfl⟩) (by assumption) ?_
        simp only [Act.put, List.setIfInBounds_toArray, List.set_cons_zero, List.set_cons_succ]
        refine wpAnyH_take (i := 12) (v := .bool true) rfl (by kernel_rfl) (by kernel_rfl) (by kernel_rfl) (fun _ _ _ h => h) (Or.inl ⟨rfl, fun w' hSw => by (try dsimp only at hSw); go_simp⟩) (by assumption) ?_
        simp only [Act.put, List.setIfInBounds_toArray, List.set_cons_zero, List.set_cons_succ]
        refine wpAnyH_done (by kernel_rfl) ?_ _
        go_wp2_with fail
        go_ret
        exact ⟨ret_bool (unhide HX).symm, B2.trans (B3.mono B2.size)⟩
    · have e : k = n := by omega
      subst e
      have Hall := hide (show L.all fieldsB = true from (all_iff_at L).2 (fun j hj => unhide Ha j hj (by have := unhide HL; omega)))
      go_wp2
      go_ret
      exact ⟨ret_bool (unhide Hall).symm, B1⟩

end Go.Proofs.YtddpcehgopeklaaGreatDoor

namespace Go.Proofs.YtddpcehgopeklaaGreatDoor
open Go.RowKit
set_option linter.unusedVariables false

/-- numbers, of any length -/
structure IntsR (w : World) (a : Option Addr) (n c : Nat) (L : List Int) : Prop where
  len : L.length = n
  cap : n ≤ c
  small : c ≤ maxLen
  cells : ∀ j, (h : j < L.length) → ∃ b off, a = some ⟨b, off, none⟩ ∧ b < w.heap.size ∧ w.cell? ⟨b, off + j, none⟩ = some (.int .i64 L[j])

def NdAtR (w : World) (b o : Nat) (x : Nd) : Prop := ∃ an nn cn ak nk ck, w.cell? ⟨b, o, none⟩ = some (.int .i64 x.op) ∧ w.cell? ⟨b, o + 1, none⟩ = some (.int .i64 x.num) ∧ w.cell? ⟨b, o + 2, none⟩ = some (.string x.text) ∧ w.cell? ⟨b, o + 3, none⟩ = some (.slice an nn cn) ∧ w.cell? ⟨b, o + 4, none⟩ = some (.slice ak nk ck) ∧ Strs w an nn cn x.names ∧ IntsR w ak nk ck x.kids

structure NdsR (w : World) (a : Option Addr) (n c : Nat) (L : List Nd) : Prop where
  len : L.length = n
  cap : n ≤ c
  small : c ≤ maxLen
  sizes : ∀ x ∈ L, x.text.size ≤ maxLen
  cells : ∀ j, (h : j < L.length) → ∃ b off, a = some ⟨b, off, none⟩ ∧ b < w.heap.size ∧ NdAtR w b (off + j * 5) L[j]

structure StsR (w : World) (a : Option Addr) (n c : Nat) (L : List St) : Prop where
  len : L.length = n
  cap : n ≤ c
  small : c ≤ maxLen
  sizes : ∀ s ∈ L, s.name.size ≤ maxLen
  cells : ∀ j, (h : j < L.length) → ∃ b off, a = some ⟨b, off, none⟩ ∧ b < w.heap.size ∧ w.cell? ⟨b, off + j * 4, none⟩ = some (.int .i64 L[j].kind) ∧ w.cell? ⟨b, off + j * 4 + 1, none⟩ = some (.string L[j].name) ∧ w.cell? ⟨b, off + j * 4 + 2, none⟩ = some (.int .i64 L[j].cond) ∧ w.cell? ⟨b, off + j * 4 + 3, none⟩ = some (.int .i64 L[j].grant)

theorem IntsR.below {w w' : World} {B : Nat} {a : Option Addr} {n c : Nat} {L : List Int} (h : IntsR w a n c L) (hb : Below B w w') (hB : w.heap.size ≤ B) : IntsR w' a n c L :=
  ⟨h.len, h.cap, h.small, fun j hj => by
    obtain ⟨b, off, ha, hl, c0⟩ := h.cells j hj
    exact ⟨b, off, ha, Nat.lt_of_lt_of_le hl hb.size, (hb.cell (p := ⟨b, off + j, none⟩) (by show b < B; omega)).trans c0⟩⟩

theorem NdAtR.below {w w' : World} {B b o : Nat} {x : Nd} (h : NdAtR w b o x) (hl : b < w.heap.size) (hb : Below B w w') (hB : w.heap.size ≤ B) : NdAtR w' b o x := by
  obtain ⟨an, nn, cn, ak, nk, ck, c0, c1, c2, c3, c4, hN, hK⟩ := h
  have hl' : b < B := by omega
  exact ⟨an, nn, cn, ak, nk, ck, (hb.cell (p := ⟨b, o, none⟩) hl').trans c0, (hb.cell (p := ⟨b, o + 1, none⟩) hl').trans c1, (hb.cell (p := ⟨b, o + 2, none⟩) hl').trans c2, (hb.cell (p := ⟨b, o + 3, none⟩) hl').trans c3, (hb.cell (p := ⟨b, o + 4, none⟩) hl').trans c4, hN.below hb hB, hK.below hb hB⟩

theorem NdsR.below {w w' : World} {B : Nat} {a : Option Addr} {n c : Nat} {L : List Nd} (h : NdsR w a n c L) (hb : Below B w w') (hB : w.heap.size ≤ B) : NdsR w' a n c L :=
  ⟨h.len, h.cap, h.small, h.sizes, fun j hj => by
    obtain ⟨b, off, ha, hl, hc⟩ := h.cells j hj
    exact ⟨b, off, ha, Nat.lt_of_lt_of_le hl hb.size, hc.below hl hb hB⟩⟩

theorem StsR.below {w w' : World} {B : Nat} {a : Option Addr} {n c : Nat} {L : List St} (h : StsR w a n c L) (hb : Below B w w') (hB : w.heap.size ≤ B) : StsR w' a n c L :=
  ⟨h.len, h.cap, h.small, h.sizes, fun j hj => by
    obtain ⟨b, off, ha, hl, c0, c1, c2, c3⟩ := h.cells j hj
    have hl' : b < B := by omega
    exact ⟨b, off, ha, Nat.lt_of_lt_of_le hl hb.size, (hb.cell (p := ⟨b, off + j * 4, none⟩) hl').trans c0, (hb.cell (p := ⟨b, off + j * 4 + 1, none⟩) hl').trans c1, (hb.cell (p := ⟨b, off + j * 4 + 2, none⟩) hl').trans c2, (hb.cell (p := ⟨b, off + j * 4 + 3, none⟩) hl').trans c3⟩⟩

/-- a node that the law lets by -/
def smallNd (x : Nd) : Prop := x.text.size ≤ 1048576 ∧ x.names.length ≤ 1048576 ∧ tot x.names ≤ 1048576 ∧ x.kids.length ≤ 1048576

/-- what a look at a size leaves: -1, or no more than there was, and then P -/
def Left (L : Int) (P : Prop) (e : Ending) : Prop := ∃ r : Int, e = .returned (.int .i64 r) ∧ (r = -1 ∨ 0 ≤ r ∧ r ≤ L ∧ P)

theorem left_no (L : Int) (P : Prop) : Left L P (.returned (.int .i64 (-1))) := ⟨_, rfl, .inl rfl⟩

set_option maxHeartbeats 800000 in
theorem szIntS_any (a : Option Addr) (n c : Nat) (L : Int) (w : World) (hn : n ≤ maxLen) (hL : -1 ≤ L) (hL' : L ≤ 1048576) :
    Calls Tryz.prog 55 #[.slice a n c, .int .i64 L] w fun e w' => Left L (n ≤ 1048576) e ∧ w' = w := by
  unfold maxLen at hn
  by_cases h0 : L - n < 0
  · go_enter Tryz.func55, Tryz.ntmps55
    go_wp2
    go_ret
    exact ⟨left_no _ _, rfl⟩
  · have h0' : 0 ≤ L - n := by omega
    go_enter Tryz.func55, Tryz.ntmps55
    go_wp2
    go_ret
    exact ⟨⟨_, rfl, .inr ⟨by omega, by omega, by omega⟩⟩, rfl⟩

set_option maxRecDepth 100000 in
set_option maxHeartbeats 1600000 in
theorem szNode_any (x : Nd) (an : Option Addr) (nn cn : Nat) (ak : Option Addr) (nk ck : Nat) (L : Int) (w : World) (hN : Strs w an nn cn x.names) (hK : nk = x.kids.length) (hk : nk ≤ maxLen) (hs : x.text.size ≤ maxLen) (hL : -1 ≤ L) (hL' : L ≤ 1048576) :
    Calls Tryz.prog 34 #[.agg #[.int .i64 x.op, .int .i64 x.num, .string x.text, .slice an nn cn, .slice ak nk ck], .int .i64 L] w fun e w' => Left L (smallNd x) e ∧ Below w.heap.size w w' := by
  have R0 := Row.new w #[.int .i64 x.op, .int .i64 x.num, .string x.text, .slice an nn cn, .slice ak nk ck] 70
  have B0 := (Below.refl w.heap.size w).alloc (Nat.le_refl _) (.cells #[.int .i64 x.op, .int .i64 x.num, .string x.text, .slice an nn cn, .slice ak nk ck] 70)
  have N0 := hN.below B0 (Nat.le_refl _)
  have Hn := hide hN.len
  have HK := hide hK
  have hs' := hs
  unfold maxLen at hs'
  clear hK hN
  by_cases h0 : L - x.text.size < 0
  · go_enter Tryz.func34, Tryz.ntmps34
    go_wp2
    go_ret
    exact ⟨left_no _ _, B0⟩
  · have h0' : 0 ≤ L - x.text.size := by omega
    go_enter Tryz.func34, Tryz.ntmps34
    go_wp2_with (first
      | (go_at_call 54; refine (szStringS_any _ _ _ _ _ _ N0 (by omega) (by omega)).mono ?_; rintro e w2 ⟨⟨r, rfl, hr⟩, hw2⟩; rw [hw2]; clear hw2; have hr1 : -1 ≤ r ∧ r ≤ 1048576 := (by rcases hr with h | h <;> omega); have Hr := hide hr; clear hr)
      | (go_at_call 55; refine (szIntS_any _ _ _ _ _ hk (by omega) (by omega)).mono ?_; rintro e w3 ⟨⟨r2, rfl, hr2⟩, hw3⟩; rw [hw3]; clear hw3; have Hr2 := hide hr2; clear hr2))
    all_goals
      go_ret
      first
        | exact ⟨left_no _ _, B0⟩
        | (have a1 := unhide Hr
           have a2 := unhide Hr2
           have a3 := unhide Hn
           have a4 := unhide HK
           exact ⟨⟨_, rfl, .inr ⟨by omega, by omega, by omega, by omega, by omega, by omega⟩⟩, B0⟩)

set_option maxRecDepth 100000 in
set_option maxHeartbeats 1600000 in
theorem szNodeS_any (a : Option Addr) (n c : Nat) (N : List Nd) (L : Int) (w : World) (h : NdsR w a n c N) (hL : -1 ≤ L) (hL' : L ≤ 1048576) :
    Calls Tryz.prog 14 #[.slice a n c, .int .i64 L] w fun e w' => Left L (n ≤ 1048576 ∧ ∀ x ∈ N, smallNd x) e ∧ Below w.heap.size w w' := by
  have hn : n ≤ 9223372036854775807 := by have := h.cap; have := h.small; unfold maxLen at this; omega
  have Hl := hide h.len
  by_cases h0 : L - n < 0
  · go_enter Tryz.func14, Tryz.ntmps14
    go_wp2
    go_ret
    exact ⟨left_no _ _, Below.refl _ _⟩
  · have h0' : 0 ≤ L - n := by omega
    have h0b : (L - n < 0) = False := by simp; omega
    go_enter Tryz.func14, Tryz.ntmps14
    go_wp2_with fail
    go_loopw [1, 4, 5] (fun l _ i wr => ∃ (k : Nat) (r : Int), k ≤ n ∧ i = .int .i64 k ∧ l = .int .i64 r ∧ 0 ≤ r ∧ r ≤ L ∧ Below w.heap.size w wr ∧ Hid (∀ j, (hj : j < N.length) → j < k → smallNd N[j])) (fun _ _ i _ => n - (intOf i).toNat)
    case atStart => exact ⟨0, L - n, by omega, rfl, rfl, by omega, by omega, Below.refl _ _, hide (fun j _ h => absurd h (by omega))⟩
    case round =>
      obtain ⟨k, r, hk, rfl, rfl, hr0, hrL, B1, Ha⟩ := hrel
      by_cases hlt : k < n
      · have ilt : (k : Int) < (n : Int) := by omega
        have hkl : k < N.length := by rw [unhide Hl]; exact hlt
        have hsz := h.sizes N[k] (List.getElem_mem hkl)
        obtain ⟨b', off, rfl, hb, an, nn, cn, ak, nk, ck, c0, c1, c2, c3, c4, hNm, hK⟩ := (h.below B1 (Nat.le_refl _)).cells k hkl
        have HY := hide (show smallNd N[k] → ∀ j, (hj : j < N.length) → j < k + 1 → smallNd N[j] from fun e j hj h' => by
          by_cases ej : j = k
          · subst ej; exact e
          · exact unhide Ha j hj (by omega))
        have Hlt := hide hlt
        have HKL := hide hK.len
        have hKs : nk ≤ maxLen := Nat.le_trans hK.cap hK.small
        clear Ha hK
        generalize N[k] = x at c0 c1 c2 c3 c4 hNm hsz HY HKL
        go_wp2_with (go_at_call 34; refine (szNode_any x an nn cn ak nk ck _ _ hNm (unhide HKL).symm hKs hsz (by omega) (by omega)).mono ?_; rintro e w2 ⟨⟨r2, rfl, hr2⟩, hb2⟩; have Hr2 := hide hr2; clear hr2)
        · go_ret
          exact ⟨left_no _ _, B1.trans (hb2.mono B1.size)⟩
        · have a1 := unhide Hr2
          have a2 := unhide Hlt
          exact ⟨⟨k + 1, r2, a2, by go_num, rfl, by omega, by omega, B1.trans (hb2.mono B1.size), hide (unhide HY (by rcases a1 with e | e; omega; exact e.2.2))⟩, by simp [intOf]; omega⟩
      · have HX := hide (show n ≤ 1048576 ∧ ∀ x ∈ N, smallNd x from ⟨by omega, fun x hx => by
          obtain ⟨j, hj, rfl⟩ := List.getElem_of_mem hx
          exact unhide Ha j hj (by have := unhide Hl; omega)⟩)
        go_wp2_with fail
        go_ret
        exact ⟨⟨_, rfl, .inr ⟨hr0, hrL, unhide HX⟩⟩, B1⟩

set_option maxHeartbeats 800000 in
theorem szStmt_any (s : St) (L : Int) (w : World) (hs : s.name.size ≤ maxLen) (hL : -1 ≤ L) (hL' : L ≤ 1048576) :
    Calls Tryz.prog 35 #[.agg #[.int .i64 s.kind, .string s.name, .int .i64 s.cond, .int .i64 s.grant], .int .i64 L] w fun e w' => Left L (s.name.size ≤ 1048576) e ∧ Below w.heap.size w w' := by
  have B0 := (Below.refl w.heap.size w).alloc (Nat.le_refl _) (.cells #[.int .i64 s.kind, .string s.name, .int .i64 s.cond, .int .i64 s.grant] 73)
  unfold maxLen at hs
  by_cases h0 : L - s.name.size < 0
  · go_enter Tryz.func35, Tryz.ntmps35
    go_wp2
    go_ret
    exact ⟨left_no _ _, B0⟩
  · have h0' : 0 ≤ L - s.name.size := by omega
    go_enter Tryz.func35, Tryz.ntmps35
    go_wp2
    go_ret
    exact ⟨⟨_, rfl, .inr ⟨by omega, by omega, by omega⟩⟩, B0⟩

set_option maxRecDepth 100000 in
set_option maxHeartbeats 1600000 in
theorem szStmtS_any (a : Option Addr) (n c : Nat) (N : List St) (L : Int) (w : World) (h : StsR w a n c N) (hL : -1 ≤ L) (hL' : L ≤ 1048576) :
    Calls Tryz.prog 15 #[.slice a n c, .int .i64 L] w fun e w' => Left L (n ≤ 1048576 ∧ ∀ x ∈ N, x.name.size ≤ 1048576) e ∧ Below w.heap.size w w' := by
  have hn : n ≤ 9223372036854775807 := by have := h.cap; have := h.small; unfold maxLen at this; omega
  have Hl := hide h.len
  by_cases h0 : L - n < 0
  · go_enter Tryz.func15, Tryz.ntmps15
    go_wp2
    go_ret
    exact ⟨left_no _ _, Below.refl _ _⟩
  · have h0' : 0 ≤ L - n := by omega
    have h0b : (L - n < 0) = False := by simp; omega
    go_enter Tryz.func15, Tryz.ntmps15
    go_wp2_with fail
    go_loopw [1, 4, 5] (fun l _ i wr => ∃ (k : Nat) (r : Int), k ≤ n ∧ i = .int .i64 k ∧ l = .int .i64 r ∧ 0 ≤ r ∧ r ≤ L ∧ Below w.heap.size w wr ∧ Hid (∀ j, (hj : j < N.length) → j < k → N[j].name.size ≤ 1048576)) (fun _ _ i _ => n - (intOf i).toNat)
    case atStart => exact ⟨0, L - n, by omega, rfl, rfl, by omega, by omega, Below.refl _ _, hide (fun j _ h => absurd h (by omega))⟩
    case round =>
      obtain ⟨k, r, hk, rfl, rfl, hr0, hrL, B1, Ha⟩ := hrel
      by_cases hlt : k < n
      · have ilt : (k : Int) < (n : Int) := by omega
        have hkl : k < N.length := by rw [unhide Hl]; exact hlt
        have hsz := h.sizes N[k] (List.getElem_mem hkl)
        obtain ⟨b', off, rfl, hb, c0, c1, c2, c3⟩ := (h.below B1 (Nat.le_refl _)).cells k hkl
        have HY := hide (show N[k].name.size ≤ 1048576 → ∀ j, (hj : j < N.length) → j < k + 1 → N[j].name.size ≤ 1048576 from fun e j hj h' => by
          by_cases ej : j = k
          · subst ej; exact e
          · exact unhide Ha j hj (by omega))
        have Hlt := hide hlt
        clear Ha
        generalize N[k] = x at c0 c1 c2 c3 hsz HY
        go_wp2_with (go_at_call 35; refine (szStmt_any x _ _ hsz (by omega) (by omega)).mono ?_; rintro e w2 ⟨⟨r2, rfl, hr2⟩, hb2⟩; have Hr2 := hide hr2; clear hr2)
        · go_ret
          exact ⟨left_no _ _, B1.trans (hb2.mono B1.size)⟩
        · have a1 := unhide Hr2
          have a2 := unhide Hlt
          exact ⟨⟨k + 1, r2, a2, by go_num, rfl, by omega, by omega, B1.trans (hb2.mono B1.size), hide (unhide HY (by rcases a1 with e | e; omega; exact e.2.2))⟩, by simp [intOf]; omega⟩
      · have HX := hide (show n ≤ 1048576 ∧ ∀ x ∈ N, x.name.size ≤ 1048576 from ⟨by omega, fun x hx => by
          obtain ⟨j, hj, rfl⟩ := List.getElem_of_mem hx
          exact unhide Ha j hj (by have := unhide Hl; omega)⟩)
        go_wp2_with fail
        go_ret
        exact ⟨⟨_, rfl, .inr ⟨hr0, hrL, unhide HX⟩⟩, B1⟩

/-- a policy that the law lets by -/
def smallP (n m : Nat) (N : List Nd) (L : List St) : Prop := (n ≤ 1048576 ∧ ∀ x ∈ N, smallNd x) ∧ m ≤ 1048576 ∧ ∀ x ∈ L, x.name.size ≤ 1048576

end Go.Proofs.YtddpcehgopeklaaGreatDoor

/-
  ZB, ZC. Own work.
-/
import Derived.Test.YtjapdeehnfoonaaGreatDoorZA
namespace Go.Proofs.YtjapdeehnfoonaaGreatDoor
open Go.RowKit
set_option linter.unusedVariables false

set_option maxRecDepth 100000 in
theorem l3attrType_any (n : Int) (w : World) : Calls Tryz.prog 75 #[.int .i64 n] w fun r w' => r = .returned (.int .i64 (attrTy n)) ∧ w' = w := by
  by_cases h1 : n < 2
  · have HX := hide (show attrTy n = 3 by rw [attrTy, if_pos h1])
    go_enter Tryz.func75, Tryz.ntmps75
    go_wp2_with fail
    go_ret
    exact ⟨by rw [unhide HX]; rfl, rfl⟩
  by_cases h2 : n < 4
  · have HX := hide (show attrTy n = 2 by rw [attrTy, if_neg h1, if_pos h2])
    go_enter Tryz.func75, Tryz.ntmps75
    go_wp2_with fail
    go_ret
    exact ⟨by rw [unhide HX]; rfl, rfl⟩
  · have HX := hide (show attrTy n = 4 by rw [attrTy, if_neg h1, if_neg h2])
    go_enter Tryz.func75, Tryz.ntmps75
    go_wp2_with fail
    go_ret
    exact ⟨by rw [unhide HX]; rfl, rfl⟩

/-- do the kids fit? and which is the one type -/
def fitL : Int → List Int → List Int → Option Int
  | any, [], _ => some any
  | any, w :: ws, ks => match ks with
    | [] => none
    | k :: ks => if w = 0 then (if any = 0 then fitL k ws ks else if k = any then fitL any ws ks else none) else if k = w then fitL any ws ks else none

def typeL (op : Int) (K : List Int) : Int := match fitL 0 (rowL op).1 K with
  | none => 0
  | some any => if (rowL op).2 = 0 then any else (rowL op).2

theorem fitL_at {any : Int} {W K : List Int} {k : Nat} (h1 : k < W.length) (h2 : k < K.length) : fitL any (W.drop k) (K.drop k) =
    if W[k] = 0 then (if any = 0 then fitL K[k] (W.drop (k + 1)) (K.drop (k + 1)) else if K[k] = any then fitL any (W.drop (k + 1)) (K.drop (k + 1)) else none) else if K[k] = W[k] then fitL any (W.drop (k + 1)) (K.drop (k + 1)) else none := by
  rw [List.drop_eq_getElem_cons h1, List.drop_eq_getElem_cons h2, fitL]

set_option maxRecDepth 100000 in
set_option maxHeartbeats 1600000 in
theorem l3type_any (op : Int) (h : opOK op) (a : Option Addr) (n c : Nat) (K : List Int) (w : World) (hK : Ints w a n c K) (hl : (rowL op).1.length ≤ n) :
    Calls Tryz.prog 76 #[.int .i64 op, .slice a n c] w fun r w' => r = .returned (.int .i64 (typeL op K)) ∧ Below w.heap.size w w' := by
  have HR := hide (l3row_any op h w)
  obtain ⟨W, hW⟩ : ∃ W, W = (rowL op).1 := ⟨_, rfl⟩
  obtain ⟨o, ho⟩ : ∃ o, o = (rowL op).2 := ⟨_, rfl⟩
  have HT := hide (show typeL op K = match fitL 0 W K with | none => 0 | some any => if o = 0 then any else o by rw [hW, ho]; rfl)
  unfold RwAns at HR
  rw [← hW, ← ho] at HR
  rw [← hW] at hl
  have HL := hide hl
  have HKl := hide hK.len
  have hn := hK.small
  clear hW ho hl h
  go_enter Tryz.func76, Tryz.ntmps76
  go_wp2_with fail
  refine (unhide HR).mono ?_
  rintro r w1 ⟨⟨x, m, c1, rfl, I1⟩, hb1⟩
  have HM := hide I1.len
  have K1 := hK.below hb1 (Nat.le_refl _)
  have hm := I1.small
  dsimp only
  go_wp2_with fail
  go_loopw [7, 17] (fun v i wr => ∃ (k : Nat) (any : Int), k ≤ m ∧ v = .int .i64 any ∧ i = .int .i64 k ∧ Below w1.heap.size w1 wr ∧ Hid (fitL 0 W K = fitL any (W.drop k) (K.drop k))) (fun _ i _ => m - (intOf i).toNat)
  case atStart => exact ⟨0, 0, by omega, rfl, rfl, Below.refl _ _, hide rfl⟩
  case round =>
    obtain ⟨k, any, hk, rfl, rfl, D1, HF⟩ := hrel
    by_cases hlt : k < m
    · have ilt : (k : Int) < (m : Int) := by omega
      have h1 : k < W.length := by rw [unhide HM]; exact hlt
      have h2 : k < K.length := by have := unhide HL; rw [unhide HKl]; omega
      have i2 : (k : Int) < (n : Int) := by have := unhide HKl; omega
      obtain ⟨b1, o1, rfl, hb, c0⟩ := (I1.below D1 (Nat.le_refl _)).cells k h1
      obtain ⟨b2, o2, rfl, hb', c2⟩ := (K1.below D1 (Nat.le_refl _)).cells k h2
      have HG := hide ((unhide HF).trans (fitL_at h1 h2))
      have HX := hide (show (if W[k] = 0 then (if any = 0 then fitL K[k] (W.drop (k + 1)) (K.drop (k + 1)) else if K[k] = any then fitL any (W.drop (k + 1)) (K.drop (k + 1)) else none) else if K[k] = W[k] then fitL any (W.drop (k + 1)) (K.drop (k + 1)) else none) = none → typeL op K = 0 from fun e => by rw [unhide HT, unhide HF, fitL_at h1 h2, e])
      have Hlt := hide hlt
      generalize fitL 0 W K = F at HG HT
      generalize W[k] = u at c0 HG HX
      generalize K[k] = v at c2 HG HX
      clear hlt h1 h2
      by_cases hu : u = 0
      · subst hu
        have z0 : ((0 : Int) == 0) = true := rfl
        by_cases ha : any = 0
        · subst ha
          have vv : (v != v) = false := by simp
          have HN := hide ((unhide HG).trans (by rw [if_pos rfl, if_pos rfl]))
          clear HG HX
          go_wp2_with fail
          go_roundw
          case rel => exact ⟨k + 1, v, unhide Hlt, rfl, by go_num, D1, HN⟩
          case measure => have := unhide Hlt; simp [intOf]; omega
        · have ea : (any == 0) = false := beq_eq_false_iff_ne.2 ha
          by_cases hv : v = any
          · have ev : (v != any) = false := by simp [hv]
            have HN := hide ((unhide HG).trans (by rw [if_pos rfl, if_neg ha, if_pos hv]))
            clear HG HX ha hv
            go_wp2_with fail
            go_roundw
            case rel => exact ⟨k + 1, any, unhide Hlt, rfl, by go_num, D1, HN⟩
            case measure => have := unhide Hlt; simp [intOf]; omega
          · have ev : (v != any) = true := bne_iff_ne.2 hv
            have HN := hide (unhide HX (by rw [if_pos rfl, if_neg ha, if_neg hv]))
            clear HG HX ha hv
            go_wp2_with fail
            go_ret
            exact ⟨by rw [unhide HN]; rfl, hb1.trans (D1.mono hb1.size)⟩
      · have eu : (u == 0) = false := beq_eq_false_iff_ne.2 hu
        by_cases hv : v = u
        · have ev : (v != u) = false := by simp [hv]
          have HN := hide ((unhide HG).trans (by rw [if_neg hu, if_pos hv]))
          clear HG HX hu hv
          go_wp2_with fail
          go_roundw
          case rel => exact ⟨k + 1, any, unhide Hlt, rfl, by go_num, D1, HN⟩
          case measure => have := unhide Hlt; simp [intOf]; omega
        · have ev : (v != u) = true := bne_iff_ne.2 hv
          have HN := hide (unhide HX (by rw [if_neg hu, if_neg hv]))
          clear HG HX hu hv
          go_wp2_with fail
          go_ret
          exact ⟨by rw [unhide HN]; rfl, hb1.trans (D1.mono hb1.size)⟩
    · have e : k = m := by omega
      subst e
      have HN := hide (show typeL op K = if o = 0 then any else o by
        rw [unhide HT, unhide HF, List.drop_of_length_le (by rw [unhide HM]; omega)]
        rfl)
      by_cases h0 : o = 0
      · subst h0
        have HN := hide ((unhide HN).trans (if_pos rfl))
        go_wp2_with fail
        go_ret
        exact ⟨by rw [unhide HN]; rfl, hb1.trans (D1.mono hb1.size)⟩
      · have e0 : (o == 0) = false := beq_eq_false_iff_ne.2 h0
        have H0 := hide h0
        clear h0
        go_wp2_with fail
        go_ret
        exact ⟨by rw [unhide HN, if_neg (unhide H0)]; rfl, hb1.trans (D1.mono hb1.size)⟩

end Go.Proofs.YtjapdeehnfoonaaGreatDoor

namespace Go.Proofs.YtjapdeehnfoonaaGreatDoor
open Go.RowKit
set_option linter.unusedVariables false

theorem typeL_un (op a : Int) (h : 8 ≤ op ∧ op ≤ 10) : typeL op [a] = tyOp op [a] := by
  have : op = 8 ∨ op = 9 ∨ op = 10 := by omega
  rcases this with rfl | rfl | rfl
  · by_cases h : a = 2 <;> simp [typeL, rowL, tyOp, fitL, h]
  · by_cases h : a = 1 <;> simp [typeL, rowL, tyOp, fitL, h]
  · by_cases h : a = 4 <;> simp [typeL, rowL, tyOp, fitL, h]

theorem typeL_bin (op a b : Int) (h : 11 ≤ op ∧ op ≤ 26) (ha : a ≠ 0) : typeL op [a, b] = tyOp op [a, b] := by
  have : op = 11 ∨ op = 12 ∨ op = 13 ∨ op = 14 ∨ op = 15 ∨ op = 16 ∨ op = 17 ∨ op = 18 ∨ op = 19 ∨ op = 20 ∨ op = 21 ∨ op = 22 ∨ op = 23 ∨ op = 24 ∨ op = 25 ∨ op = 26 := by omega
  rcases this with rfl | rfl | rfl | rfl | rfl | rfl | rfl | rfl | rfl | rfl | rfl | rfl | rfl | rfl | rfl | rfl
  all_goals
    first
      | (by_cases e : b = a
         · subst e; simp [typeL, rowL, tyOp, fitL, ha]; done
         · have e2 : a ≠ b := fun k => e k.symm
           simp [typeL, rowL, tyOp, fitL, ha, e, e2]; done)
      | (by_cases k1 : a = 1 <;> by_cases k2 : b = 1 <;> simp [typeL, rowL, tyOp, fitL, k1, k2]; done)
      | (by_cases k1 : a = 2 <;> by_cases k2 : b = 2 <;> simp [typeL, rowL, tyOp, fitL, k1, k2]; done)
      | (by_cases k1 : a = 4 <;> by_cases k2 : b = 4 <;> simp [typeL, rowL, tyOp, fitL, k1, k2]; done)
      | (by_cases k1 : a = 3 <;> by_cases k2 : b = 4 <;> simp [typeL, rowL, tyOp, fitL, k1, k2]; done)

theorem typeL_ite (a b c : Int) (hb : b ≠ 0) : typeL 27 [a, b, c] = tyOp 27 [a, b, c] := by
  simp [typeL, rowL, tyOp, fitL, hb]
  by_cases h1 : a = 1 <;> by_cases h2 : c = b <;> simp_all <;> omega

theorem typeL_leaf : typeL 1 [] = 2 ∧ typeL 2 [] = 3 ∧ typeL 3 [] = 1 ∧ typeL 4 [] = 4 := ⟨rfl, rfl, rfl, rfl⟩

end Go.Proofs.YtjapdeehnfoonaaGreatDoor

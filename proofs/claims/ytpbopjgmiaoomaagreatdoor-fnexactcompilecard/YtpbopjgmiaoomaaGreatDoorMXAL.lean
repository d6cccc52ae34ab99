/-
  ZB, ZC, VPL, JA, JC. Own work.
-/
import Derived.Test.YtpbopjgmiaoomaaGreatDoorZA
import Derived.Test.YtpbopjgmiaoomaaGreatDoorMXAI
import Derived.Test.YtpbopjgmiaoomaaGreatDoorVPK
import Derived.Test.YtpbopjgmiaoomaaGreatDoorVPC
namespace Go.Proofs.YtpbopjgmiaoomaaGreatDoor
open Go.RowKit
set_option linter.unusedVariables false

set_option maxRecDepth 100000 in
theorem l3attrType_any (n : Int) (w : World) : Calls Tryz.prog 109 #[.int .i64 n] w fun r w' => r = .returned (.int .i64 (attrTy n)) ∧ w' = w := by
  by_cases h1 : n < 2
  · have HX := hide (show attrTy n = 3 by rw [attrTy, if_pos h1])
    go_enter Tryz.func109, Tryz.ntmps109
    go_wp2_with fail
    go_ret
    exact ⟨by rw [unhide HX]; rfl, rfl⟩
  by_cases h2 : n < 4
  · have HX := hide (show attrTy n = 2 by rw [attrTy, if_neg h1, if_pos h2])
    go_enter Tryz.func109, Tryz.ntmps109
    go_wp2_with fail
    go_ret
    exact ⟨by rw [unhide HX]; rfl, rfl⟩
  · have HX := hide (show attrTy n = 4 by rw [attrTy, if_neg h1, if_neg h2])
    go_enter Tryz.func109, Tryz.ntmps109
    go_wp2_with fail
    go_ret
    exact ⟨by rw [unhide HX]; rfl, rfl⟩

/-- do the kids fit? and which is the one type -/
def fitL : Int → List Int → List Int → Option Int
  | any, [], _ => some any
  | any, w :: ws, ks => match ks with
    | [] => none
    | k :: ks => if w = 0 then (if any = 0 then fitL k ws ks else if k = any then fitL any ws ks else none) else if k = w then fitL any ws ks else none

def typeL (op : Int) (K : List Int) : Int := match fitL 0 (rowL op).1 K with
  | none => 0
  | some any => if (rowL op).2 = 0 then any else (rowL op).2

theorem fitL_at {any : Int} {W K : List Int} {k : Nat} (h1 : k < W.length) (h2 : k < K.length) : fitL any (W.drop k) (K.drop k) =
    if W[k] = 0 then (if any = 0 then fitL K[k] (W.drop (k + 1)) (K.drop (k + 1)) else if K[k] = any then fitL any (W.drop (k + 1)) (K.drop (k + 1)) else none) else if K[k] = W[k] then fitL any (W.drop (k + 1)) (K.drop (k + 1)) else none := by
  rw [List.drop_eq_getElem_cons h1, List.drop_eq_getElem_cons h2, fitL]

set_option maxRecDepth 100000 in
set_option maxHeartbeats 1600000 in
theorem l3type_any (op : Int) (h : opOK op) (a : Option Addr) (n c : Nat) (K : List Int) (w : World) (hK : Ints w a n c K) (hl : (rowL op).1.length ≤ n) :
    Calls Tryz.prog 110 #[.int .i64 op, .slice a n c] w fun r w' => r = .returned (.int .i64 (typeL op K)) ∧ Below w.heap.size w w' := by
  have HR := hide (l3row_any op h w)
  obtain ⟨W, hW⟩ : ∃ W, W = (rowL op).1 := ⟨_, rfl⟩
  obtain ⟨o, ho⟩ : ∃ o, o = (rowL op).2 := ⟨_, rfl⟩
  have HT := hide (show typeL op K = match fitL 0 W K with | none => 0 | some any => if o = 0 then any else o by rw [hW, ho]; rfl)
  unfold RwAns at HR
  rw [← hW, ← ho] at HR
  rw [← hW] at hl
  have HL := hide hl
  have HKl := hide hK.len
  have hn := hK.small
  clear hW ho hl h
  go_enter Tryz.func110, Tryz.ntmps110
  go_wp2_with fail
  refine (unhide HR).mono ?_
  rintro r w1 ⟨⟨x, m, c1, rfl, I1⟩, hb1⟩
  have HM := hide I1.len
  have K1 := hK.below hb1 (Nat.le_refl _)
  have hm := I1.small
  dsimp only
  go_wp2_with fail
  go_loopw [7, 17] (fun v i wr => ∃ (k : Nat) (any : Int), k ≤ m ∧ v = .int .i64 any ∧ i = .int .i64 k ∧ Below w1.heap.size w1 wr ∧ Hid (fitL 0 W K = fitL any (W.drop k) (K.drop k))) (fun _ i _ => m - (intOf i).toNat)
  case atStart => exact ⟨0, 0, by omega, rfl, rfl, Below.refl _ _, hide rfl⟩
  case round =>
    obtain ⟨k, any, hk, rfl, rfl, D1, HF⟩ := hrel
    by_cases hlt : k < m
    · have ilt : (k : Int) < (m : Int) := by omega
      have h1 : k < W.length := by rw [unhide HM]; exact hlt
      have h2 : k < K.length := by have := unhide HL; rw [unhide HKl]; omega
      have i2 : (k : Int) < (n : Int) := by have := unhide HKl; omega
      obtain ⟨b1, o1, rfl, hb, c0⟩ := (I1.below D1 (Nat.le_refl _)).cells k h1
      obtain ⟨b2, o2, rfl, hb', c2⟩ := (K1.below D1 (Nat.le_refl _)).cells k h2
      have HG := hide ((unhide HF).trans (fitL_at h1 h2))
      have HX := hide (show (if W[k] = 0 then (if any = 0 then fitL K[k] (W.drop (k + 1)) (K.drop (k + 1)) else if K[k] = any then fitL any (W.drop (k + 1)) (K.drop (k + 1)) else none) else if K[k] = W[k] then fitL any (W.drop (k + 1)) (K.drop (k + 1)) else none) = none → typeL op K = 0 from fun e => by rw [unhide HT, unhide HF, fitL_at h1 h2, e])
      have Hlt := hide hlt
      generalize fitL 0 W K = F at HG HT
      generalize W[k] = u at c0 HG HX
      generalize K[k] = v at c2 HG HX
      clear hlt h1 h2
      by_cases hu : u = 0
      · subst hu
        have z0 : ((0 : Int) == 0) = true := rfl
        by_cases ha : any = 0
        · subst ha
          have vv : (v != v) = false := by simp
          have HN := hide ((unhide HG).trans (by rw [if_pos rfl, if_pos rfl]))
          clear HG HX
          go_wp2_with fail
          go_roundw
          case rel => exact ⟨k + 1, v, unhide Hlt, rfl, by go_num, D1, HN⟩
          case measure => have := unhide Hlt; simp [intOf]; omega
        · have ea : (any == 0) = false := beq_eq_false_iff_ne.2 ha
          by_cases hv : v = any
          · have ev : (v != any) = false := by simp [hv]
            have HN := hide ((unhide HG).trans (by rw [if_pos rfl, if_neg ha, if_pos hv]))
            clear HG HX ha hv
            go_wp2_with fail
            go_roundw
            case rel => exact ⟨k + 1, any, unhide Hlt, rfl, by go_num, D1, HN⟩
            case measure => have := unhide Hlt; simp [intOf]; omega
          · have ev : (v != any) = true := bne_iff_ne.2 hv
            have HN := hide (unhide HX (by rw [if_pos rfl, if_neg ha, if_neg hv]))
            clear HG HX ha hv
            go_wp2_with fail
            go_ret
            exact ⟨by rw [unhide HN]; rfl, hb1.trans (D1.mono hb1.size)⟩
      · have eu : (u == 0) = false := beq_eq_false_iff_ne.2 hu
        by_cases hv : v = u
        · have ev : (v != u) = false := by simp [hv]
          have HN := hide ((unhide HG).trans (by rw [if_neg hu, if_pos hv]))
          clear HG HX hu hv
          go_wp2_with fail
          go_roundw
          case rel => exact ⟨k + 1, any, unhide Hlt, rfl, by go_num, D1, HN⟩
          case measure => have := unhide Hlt; simp [intOf]; omega
        · have ev : (v != u) = true := bne_iff_ne.2 hv
          have HN := hide (unhide HX (by rw [if_neg hu, if_neg hv]))
          clear HG HX hu hv
          go_wp2_with fail
          go_ret
          exact ⟨by rw [unhide HN]; rfl, hb1.trans (D1.mono hb1.size)⟩
    · have e : k = m := by omega
      subst e
      have HN := hide (show typeL op K = if o = 0 then any else o by
        rw [unhide HT, unhide HF, List.drop_of_length_le (by rw [unhide HM]; omega)]
        rfl)
      by_cases h0 : o = 0
      · subst h0
        have HN := hide ((unhide HN).trans (if_pos rfl))
        go_wp2_with fail
        go_ret
        exact ⟨by rw [unhide HN]; rfl, hb1.trans (D1.mono hb1.size)⟩
      · have e0 : (o == 0) = false := beq_eq_false_iff_ne.2 h0
        have H0 := hide h0
        clear h0
        go_wp2_with fail
        go_ret
        exact ⟨by rw [unhide HN, if_neg (unhide H0)]; rfl, hb1.trans (D1.mono hb1.size)⟩

end Go.Proofs.YtpbopjgmiaoomaaGreatDoor

namespace Go.Proofs.YtpbopjgmiaoomaaGreatDoor
open Go.RowKit
set_option linter.unusedVariables false

theorem typeL_un (op a : Int) (h : 8 ≤ op ∧ op ≤ 10) : typeL op [a] = tyOp op [a] := by
  have : op = 8 ∨ op = 9 ∨ op = 10 := by omega
  rcases this with rfl | rfl | rfl
  · by_cases h : a = 2 <;> simp [typeL, rowL, tyOp, fitL, h]
  · by_cases h : a = 1 <;> simp [typeL, rowL, tyOp, fitL, h]
  · by_cases h : a = 4 <;> simp [typeL, rowL, tyOp, fitL, h]

theorem typeL_bin (op a b : Int) (h : 11 ≤ op ∧ op ≤ 26) (ha : a ≠ 0) : typeL op [a, b] = tyOp op [a, b] := by
  have : op = 11 ∨ op = 12 ∨ op = 13 ∨ op = 14 ∨ op = 15 ∨ op = 16 ∨ op = 17 ∨ op = 18 ∨ op = 19 ∨ op = 20 ∨ op = 21 ∨ op = 22 ∨ op = 23 ∨ op = 24 ∨ op = 25 ∨ op = 26 := by omega
  rcases this with rfl | rfl | rfl | rfl | rfl | rfl | rfl | rfl | rfl | rfl | rfl | rfl | rfl | rfl | rfl | rfl
  all_goals
    first
      | (by_cases e : b = a
         · subst e; simp [typeL, rowL, tyOp, fitL, ha]; done
         · have e2 : a ≠ b := fun k => e k.symm
           simp [typeL, rowL, tyOp, fitL, ha, e, e2]; done)
      | (by_cases k1 : a = 1 <;> by_cases k2 : b = 1 <;> simp [typeL, rowL, tyOp, fitL, k1, k2]; done)
      | (by_cases k1 : a = 2 <;> by_cases k2 : b = 2 <;> simp [typeL, rowL, tyOp, fitL, k1, k2]; done)
      | (by_cases k1 : a = 4 <;> by_cases k2 : b = 4 <;> simp [typeL, rowL, tyOp, fitL, k1, k2]; done)
      | (by_cases k1 : a = 3 <;> by_cases k2 : b = 4 <;> simp [typeL, rowL, tyOp, fitL, k1, k2]; done)

theorem typeL_ite (a b c : Int) (hb : b ≠ 0) : typeL 27 [a, b, c] = tyOp 27 [a, b, c] := by
  simp [typeL, rowL, tyOp, fitL, hb]
  by_cases h1 : a = 1 <;> by_cases h2 : c = b <;> simp_all <;> omega

end Go.Proofs.YtpbopjgmiaoomaaGreatDoor

namespace Go.Proofs.YtpbopjgmiaoomaaGreatDoor
open Go.RowKit
set_option linter.unusedVariables false

theorem ints_of_row {w : World} {base : Nat} {x : Option Addr} {n c : Nat} {L : List Int} (h : w.ownsRow base 3 1 (.slice x n c) n (intsV L)) (hn : n ≤ 1048576) : Ints w x n c L := by
  have hl : L.length = n := by have := h.1; rw [intsV, List.length_map] at this; omega
  refine ⟨hl, hn, fun j hj => ?_⟩
  obtain ⟨x', c', hv, hc⟩ := owns_form2 h
  cases hv
  obtain ⟨g, rfl, _, hg⟩ := hc (by omega)
  refine ⟨g, 0, rfl, (h.lt g rfl).2, ?_⟩
  rw [Nat.zero_add]
  exact hg j _ (by rw [intsV, List.getElem?_map, List.getElem?_eq_getElem hj]; rfl)

end Go.Proofs.YtpbopjgmiaoomaaGreatDoor

namespace Go.Proofs.YtpbopjgmiaoomaaGreatDoor
open Go.RowKit
set_option linter.unusedVariables false

/-- as the program asks, but for the kids -/
def tfB (x : Nd) : Bool :=
  if x.op = 5 then false
  else if x.op = 6 then decide (0 ≤ x.num ∧ x.num < 6) && decide (x.text.size = 0) && decide (x.names.length = 0)
  else if x.op = 7 ∨ x.op = 1 then decide (x.text.size = 0) && decide (x.names.length = 0)
  else wfB x

def fieldsT (x : Nd) : Bool := decide ((x.kids.length : Int) = kidN x.op) && tfB x

/-- as the model asks -/
def fieldsU (x : Nd) : Bool :=
  decide ((x.kids.length : Int) = kidN x.op) &&
  (if x.op = 1 then decide (x.text.size = 0) && decide (x.names.length = 0)
   else if x.op = 2 then quotedB x.text && decide (x.num = 0) && decide (x.names.length = 0)
   else if x.op = 3 then decide (x.num = 0 ∨ x.num = 1) && decide (x.text.size = 0) && decide (x.names.length = 0)
   else if x.op = 4 then setB x.names && decide (x.num = 0) && decide (x.text.size = 0)
   else if x.op = 5 then false
   else if x.op = 6 then decide (0 ≤ x.num ∧ x.num ≤ 5) && decide (x.text.size = 0) && decide (x.names.length = 0)
   else if x.op = 7 then decide (0 ≤ x.num ∧ x.num < 600) && decide (x.text.size = 0) && decide (x.names.length = 0)
   else decide (x.num = 0) && decide (x.text.size = 0) && decide (x.names.length = 0))

/-- the two differ at lets alone -/
theorem fieldsU_iff (x : Nd) : fieldsU x = true ↔ fieldsT x = true ∧ (x.op = 7 → 0 ≤ x.num ∧ x.num < 600) := by
  unfold fieldsU fieldsT tfB wfB
  by_cases h1 : x.op = 1
  · simp [h1]
  by_cases h2 : x.op = 2
  · simp [h2]
  by_cases h3 : x.op = 3
  · simp [h3]
  by_cases h4 : x.op = 4
  · simp [h4]
  by_cases h5 : x.op = 5
  · simp [h5]
  by_cases h6 : x.op = 6
  · simp only [h6]
    simp
    omega
  by_cases h7 : x.op = 7
  · simp only [h7]
    simp
    constructor
    · rintro ⟨a, ⟨⟨b, c⟩, d⟩, e⟩; exact ⟨⟨a, d, e⟩, b, c⟩
    · rintro ⟨⟨a, d, e⟩, b, c⟩; exact ⟨a, ⟨⟨b, c⟩, d⟩, e⟩
  · simp [h1, h2, h3, h4, h5, h6, h7]

end Go.Proofs.YtpbopjgmiaoomaaGreatDoor

namespace Go.Proofs.YtpbopjgmiaoomaaGreatDoor
open Go.RowKit
set_option linter.unusedVariables false

set_option maxRecDepth 100000 in
set_option maxHeartbeats 3200000 in
theorem typedFields_any (x : Nd) (an : Option Addr) (nn cn : Nat) (ak : Option Addr) (nk ck : Nat) (w : World) (hN : Strs w an nn cn x.names) (hs : x.text.size ≤ 1048576) :
    Calls Tryz.prog 52 #[ndV x.op x.num x.text an nn cn ak nk ck] w fun e w' => e = .returned (.bool (tfB x)) ∧ Below w.heap.size w w' := by
  have hn := hN.len
  have HW := hide (fun W hW => writtenFields_any x an nn cn ak nk ck W (hN.below hW (Nat.le_refl _)) hs)
  have HF := hide (show tfB x = (if x.op = 5 then false else if x.op = 6 then decide (0 ≤ x.num ∧ x.num < 6) && decide (x.text.size = 0) && decide (x.names.length = 0) else if x.op = 7 ∨ x.op = 1 then decide (x.text.size = 0) && decide (x.names.length = 0) else wfB x) from rfl)
  rw [← hn] at HF
  generalize tfB x = FB at HF ⊢
  generalize wfB x = WB at HF HW
  obtain ⟨op, num, text, names, kids⟩ := x
  unfold ndV at HW ⊢
  simp only at HF HW hs ⊢
  have R0 := Row.new w #[.int .i64 op, .int .i64 num, .string text, .slice an nn cn, .slice ak nk ck] 103
  have B0 := (Below.refl w.heap.size w).alloc (Nat.le_refl _) (.cells #[.int .i64 op, .int .i64 num, .string text, .slice an nn cn, .slice ak nk ck] 103)
  obtain ⟨c0, c1, c2, c3, c4, cf⟩ := row5 R0
  have ti : text.toList.isEmpty = decide (text.size = 0) := by rw [Bool.eq_iff_iff, List.isEmpty_iff, decide_eq_true_iff]; exact tl_nil text
  have Ti := hide ti
  have Tl := hide (tl_nil text)
  clear hN hn ti
  by_cases o5 : op = 5
  · subst o5
    have HF := hide ((unhide HF).trans (by rw [if_pos rfl]))
    clear HW
    go_enter Tryz.func52, Tryz.ntmps52
    go_wp2
    all_goals
      go_ret
      exact ⟨ret_bool (unhide HF).symm, B0⟩
  by_cases o6 : op = 6
  · subst o6
    have HF := hide ((unhide HF).trans (by rw [if_neg (by omega), if_pos rfl]))
    clear HW
    go_enter Tryz.func52, Tryz.ntmps52
    go_wp2
    all_goals
      go_ret
      refine ⟨ret_bool ?_, B0⟩
      rw [unhide HF]
      have ti := unhide Ti
      have tl := unhide Tl
      have nb : ((nn : Int) == 0) = decide (nn = 0) := by rw [Bool.eq_iff_iff]; simp
      clear HF R0 B0 c0 c1 c2 c3 c4 cf Ti Tl
      simp_all
      try omega
  by_cases o7 : op = 7
  · subst o7
    have HF := hide ((unhide HF).trans (by rw [if_neg (by omega), if_neg (by omega), if_pos (.inl rfl)]))
    clear HW
    go_enter Tryz.func52, Tryz.ntmps52
    go_wp2
    all_goals
      go_ret
      refine ⟨ret_bool ?_, B0⟩
      rw [unhide HF]
      have ti := unhide Ti
      have tl := unhide Tl
      have nb : ((nn : Int) == 0) = decide (nn = 0) := by rw [Bool.eq_iff_iff]; simp
      clear HF R0 B0 c0 c1 c2 c3 c4 cf Ti Tl
      simp_all
  by_cases o1 : op = 1
  · subst o1
    have HF := hide ((unhide HF).trans (by rw [if_neg (by omega), if_neg (by omega), if_pos (.inr rfl)]))
    clear HW
    go_enter Tryz.func52, Tryz.ntmps52
    go_wp2
    all_goals
      go_ret
      refine ⟨ret_bool ?_, B0⟩
      rw [unhide HF]
      have ti := unhide Ti
      have tl := unhide Tl
      have nb : ((nn : Int) == 0) = decide (nn = 0) := by rw [Bool.eq_iff_iff]; simp
      clear HF R0 B0 c0 c1 c2 c3 c4 cf Ti Tl
      simp_all
  have HF := hide ((unhide HF).trans (by rw [if_neg o5, if_neg o6, if_neg (by omega)]))
  have p1 := beq_eq_false_iff_ne.2 o1
  have p5 := beq_eq_false_iff_ne.2 o5
  have p6 := beq_eq_false_iff_ne.2 o6
  have p7 := beq_eq_false_iff_ne.2 o7
  clear o1 o5 o6 o7
  go_enter Tryz.func52, Tryz.ntmps52
  go_wp2_with (go_at_call 81; refine (unhide HW _ B0).mono ?_; rintro e w2 ⟨rfl, hb2⟩)
  all_goals
    go_ret
    exact ⟨ret_bool (unhide HF).symm, B0.trans (hb2.mono B0.size)⟩

end Go.Proofs.YtpbopjgmiaoomaaGreatDoor

/-
  VPN, JA, ZE. Own work.
-/
import Derived.Test.YtjapdeehnfoonaaGreatDoorMWI
import Derived.Deep.AppendLies
import Derived.Test.YtjapdeehnfoonaaGreatDoorMWF
import Derived.Test.YtjapdeehnfoonaaGreatDoorMWC
import Derived.Test.YtjapdeehnfoonaaGreatDoorMWK
namespace Go.Proofs.YtjapdeehnfoonaaGreatDoor
open Go.RowKit
set_option linter.unusedVariables false

theorem kidsF_len {f : Int → List Int → List Int} {M : Nat} (hf : ∀ k O, (f k O).length ≤ max O.length M + 1) (top : Int) : ∀ (ks O : List Int), (kidsF f top ks O).length ≤ max O.length M + ks.length + 1
  | [], O => by rw [kidsF, List.length_append, List.length_singleton, List.length_nil]; omega
  | k :: ks, O => by
    rw [kidsF]
    split
    · rw [List.length_append, List.length_singleton, List.length_cons]; omega
    · have h1 := kidsF_len hf top ks (f k O)
      have h2 := hf k O
      rw [List.length_cons]; omega

theorem walkF_len {K : List (List Int)} (h3 : ∀ ks ∈ K, ks.length ≤ 3) : ∀ (n : Nat) (top : Int) (O : List Int), (walkF K n top O).length ≤ max O.length (K.length + 3 * n) + 1
  | 0, top, O => by rw [walkF, List.length_append, List.length_singleton]; omega
  | n + 1, top, O => by
    rw [walkF]
    dsimp only
    split
    · rw [List.length_append, List.length_singleton]; omega
    · rename_i hc
      have h1 := kidsF_len (M := K.length + 3 * n) (walkF_len h3 n) top (K.getD top.toNat []) O
      have h2 : (K.getD top.toNat []).length ≤ 3 := by
        rw [List.getD_eq_getElem?_getD]
        cases e : K[top.toNat]? with
        | none => simp
        | some ks => exact h3 ks (List.mem_of_getElem? e)
      omega

/-- all that was is as it was, but for the row; the row lies where it lay, or in a new block -/
def Keep (w : World) (v : Value) (w' : World) (v' : Value) : Prop := (∀ k, k < w.heap.size → some k ≠ v.ownBlock → w'.heap[k]? = w.heap[k]?) ∧ (∀ q, v'.ownBlock = some q → v.ownBlock = some q ∨ w.heap.size ≤ q) ∧ w.heap.size ≤ w'.heap.size

theorem Keep.refl (w : World) (v : Value) : Keep w v w v := ⟨fun _ _ _ => rfl, fun q h => .inl h, Nat.le_refl _⟩

theorem Keep.trans {w w1 w2 : World} {v v1 v2 : Value} (h : Keep w v w1 v1) (k : Keep w1 v1 w2 v2) : Keep w v w2 v2 :=
  ⟨fun j hj hne => (k.1 j (Nat.lt_of_lt_of_le hj h.2.2) (fun e => by
    rcases h.2.1 j e.symm with e' | e'
    · exact hne e'.symm
    · omega)).trans (h.1 j hj hne), fun q hq => by
    rcases k.2.1 q hq with e | e
    · exact h.2.1 q e
    · exact .inr (Nat.le_trans h.2.2 e), Nat.le_trans h.2.2 k.2.2⟩

theorem keep_append {w w' : World} {o : Obj} {v : Value} {g n c : Nat} (hg : (w.alloc o).grownBy w' v.ownBlock) (ha : v.ownBlock = some g ∨ g = w.heap.size + 1) : Keep w v w' (.slice (some ⟨g, 0, none⟩) n c) :=
  ⟨fun k hk hne => (hg.block k (by simp; omega) hne).trans (Below.heap_alloc w o k hk), fun q hq => by
    have : g = q := by simpa [Value.ownBlock] using hq
    subst this
    rcases ha with e | e
    · exact .inl e
    · right; omega, by have := hg.size; simp at this; omega⟩

theorem Row.keep {w w' : World} {v v' : Value} {b : Nat} {cs : Array Value} {t : TypeId} (R : Row w b cs t) (h : Keep w v w' v') (hne : v.ownBlock ≠ some b) : Row w' b cs t := ⟨(h.1 b R.lt (fun e => hne e.symm)).trans R.out⟩

def WalkAns (B : Nat) (w : World) (v : Value) (R : List Int) (e : Ending) (w' : World) : Prop := ∃ v', e = .returned v' ∧ w'.ownsRow B 3 1 v' R.length (intsV R) ∧ Below B w w' ∧ Keep w v w' v'

theorem owns_snoc {w : World} {B : Nat} {v : Value} {O : List Int} {x : Int} (h : w.ownsRow B 3 1 v (O.length + 1) (intsV O ++ [.int .i64 x])) : w.ownsRow B 3 1 v (O ++ [x]).length (intsV (O ++ [x])) := by
  rw [List.length_append, List.length_singleton, intsV, List.map_append]
  exact h

theorem walk_unfit {K : List (List Int)} {n : Nat} {top : Int} {O : List Int} (h : top < 0 ∨ (K.length : Int) ≤ top ∨ K.length < O.length) : ∀ fuel, walkF K fuel top O = O ++ [-1]
  | 0 => rfl
  | n + 1 => by rw [walkF]; exact if_pos h

set_option maxRecDepth 100000 in
set_option maxHeartbeats 6400000 in
theorem l2walk_unfit (a : Option Addr) (n c : Nat) (B : Nat) (top : Int) (O : List Int) (v : Value) (w : World) (hn : n ≤ 4000) (h : top < 0 ∨ (n : Int) ≤ top ∨ n < O.length) (hO : O.length ≤ 100000) (hBw : B ≤ w.heap.size) (O1 : w.ownsRow B 3 1 v O.length (intsV O)) :
    Calls Tryz.prog 44 #[.slice a n c, .int .i64 top, v] w fun e w' => WalkAns B w v (O ++ [-1]) e w' := by
  obtain ⟨i, hi, hz0, hz1, hz2⟩ := info_parts infoI
  obtain ⟨xv, cv, rfl, _⟩ := owns_form2 O1
  rcases (show top < 0 ∨ (0 ≤ top ∧ (n : Int) ≤ top) ∨ (0 ≤ top ∧ top < n ∧ n < O.length) by omega) with h1 | ⟨h0, h2⟩ | ⟨h0, h2, h3⟩
  · have i1 : top < 0 := h1
    go_enter Tryz.func44, Tryz.ntmps44
    go_wp2_with (at_builtin; refine wpList_append_lies _ rfl _ _ 24 rfl B 3 i (.int .i64 0) 1 8 Tryz.underlying24 hi hz0 hz1 hz2 rfl (by decide) _ _ _ rfl (World.ownsRow.alloc O1 _) ⟨w.heap.size, 0, none⟩ 1 1 [.int .i64 (-1)] rfl rfl ?a1 ?a2 (by decide) ?a3 ?a4 ?a5 _ rfl ?_)
    first | (case a1 => exact one_cell _ _ _ _ (by simp)) | skip
    case a2 => first | (intro u hu; simp at hu; subst hu; rfl) | rfl
    case a3 => unfold maxLen; omega
    case a4 => omega
    case a5 => first | (simp; omega) | omega
    intro g cap w3 O3 hgrow hat hgl
    have KP := keep_append (n := O.length + 1) (c := cap) hgrow hat
    have B3 := ((Below.refl B w).alloc hBw (.cells #[.int .i64 (-1)] 3)).grown hgrow (by simp; omega) (fun q hq => (O1.lt q hq).1)
    have O4 := owns_snoc O3
    clear hgrow hat O3
    go_wp2_with fail
    go_ret
    exact ⟨_, rfl, O4, B3, KP⟩
  · have i1 : ¬ top < 0 := by omega
    have i2 : (n : Int) ≤ top := h2
    go_enter Tryz.func44, Tryz.ntmps44
    go_wp2_with (at_builtin; refine wpList_append_lies _ rfl _ _ 24 rfl B 3 i (.int .i64 0) 1 8 Tryz.underlying24 hi hz0 hz1 hz2 rfl (by decide) _ _ _ rfl (World.ownsRow.alloc O1 _) ⟨w.heap.size, 0, none⟩ 1 1 [.int .i64 (-1)] rfl rfl ?b1 ?b2 (by decide) ?b3 ?b4 ?b5 _ rfl ?_)
    first | (case b1 => exact one_cell _ _ _ _ (by simp)) | skip
    case b2 => first | (intro u hu; simp at hu; subst hu; rfl) | rfl
    case b3 => unfold maxLen; omega
    case b4 => omega
    case b5 => first | (simp; omega) | omega
    intro g cap w3 O3 hgrow hat hgl
    have KP := keep_append (n := O.length + 1) (c := cap) hgrow hat
    have B3 := ((Below.refl B w).alloc hBw (.cells #[.int .i64 (-1)] 3)).grown hgrow (by simp; omega) (fun q hq => (O1.lt q hq).1)
    have O4 := owns_snoc O3
    clear hgrow hat O3
    go_wp2_with fail
    go_ret
    exact ⟨_, rfl, O4, B3, KP⟩
  · have i1 : ¬ top < 0 := by omega
    have i2 : ¬ ((n : Int) ≤ top) := by omega
    have i3 : (n : Int) < (O.length : Int) := by omega
    go_enter Tryz.func44, Tryz.ntmps44
    go_wp2_with (at_builtin; refine wpList_append_lies _ rfl _ _ 24 rfl B 3 i (.int .i64 0) 1 8 Tryz.underlying24 hi hz0 hz1 hz2 rfl (by decide) _ _ _ rfl (World.ownsRow.alloc O1 _) ⟨w.heap.size, 0, none⟩ 1 1 [.int .i64 (-1)] rfl rfl ?c1 ?c2 (by decide) ?c3 ?c4 ?c5 _ rfl ?_)
    first | (case c1 => exact one_cell _ _ _ _ (by simp)) | skip
    case c2 => first | (intro u hu; simp at hu; subst hu; rfl) | rfl
    case c3 => unfold maxLen; omega
    case c4 => omega
    case c5 => first | (simp; omega) | omega
    intro g cap w3 O3 hgrow hat hgl
    have KP := keep_append (n := O.length + 1) (c := cap) hgrow hat
    have B3 := ((Below.refl B w).alloc hBw (.cells #[.int .i64 (-1)] 3)).grown hgrow (by simp; omega) (fun q hq => (O1.lt q hq).1)
    have O4 := owns_snoc O3
    clear hgrow hat O3
    go_wp2_with fail
    go_ret
    exact ⟨_, rfl, O4, B3, KP⟩

theorem kidsF_drop {f : Int → List Int → List Int} {top : Int} {ks : List Int} {j : Nat} (hj : j < ks.length) (O : List Int) : kidsF f top (ks.drop j) O = if top ≤ ks[j] then O ++ [-1] else kidsF f top (ks.drop (j + 1)) (f ks[j] O) := by
  rw [List.drop_eq_getElem_cons hj, kidsF]

set_option maxRecDepth 100000 in
set_option maxHeartbeats 6400000 in
theorem l2walk_any (a : Option Addr) (n c : Nat) (N : List Nd) (w0 : World) (B : Nat) (hN : Nds w0 a n c N) (hB : w0.heap.size ≤ B) (hn : n ≤ 4000) (h3 : ∀ ks ∈ N.map Nd.kids, ks.length ≤ 3) :
    ∀ (fuel : Nat) (top : Int) (O : List Int) (v : Value) (w : World), fuel ≤ 4000 → (N.length ≤ fuel ∨ top < fuel) → O.length ≤ 100000 → Below w0.heap.size w0 w → B ≤ w.heap.size → w.ownsRow B 3 1 v O.length (intsV O) →
    Calls Tryz.prog 44 #[.slice a n c, .int .i64 top, v] w fun e w' => WalkAns B w v (walkF (N.map Nd.kids) fuel top O) e w' := by
  have HL := hide hN.len
  have HK := hide (show (N.map Nd.kids).length = n by rw [List.length_map, hN.len])
  have H3 := hide h3
  obtain ⟨i, hi, hz0, hz1, hz2⟩ := info_parts infoI
  intro fuel
  induction fuel with
  | zero =>
    intro top O v w _ hf hO hb hBw O1
    have hl := unhide HL
    rw [walk_unfit (K := N.map Nd.kids) (n := n) (by rw [List.length_map]; omega) 0]
    exact l2walk_unfit a n c B top O v w hn (by omega) hO hBw O1
  | succ fuel ih =>
    intro top O v w hfl hf hO hb hBw O1
    by_cases hu : top < 0 ∨ (n : Int) ≤ top ∨ n < O.length
    · rw [walk_unfit (K := N.map Nd.kids) (n := n) (by rw [unhide HK]; exact hu) (fuel + 1)]
      exact l2walk_unfit a n c B top O v w hn hu hO hBw O1
    · obtain ⟨t, rfl⟩ : ∃ t : Nat, top = (t : Int) := ⟨top.toNat, by omega⟩
      have htn : t < n := by omega
      have hOn : O.length ≤ n := by omega
      have htl : t < N.length := by rw [unhide HL]; exact htn
      have i1 : ¬ ((t : Int) < 0) := by omega
      have i2 : ¬ ((n : Int) ≤ (t : Int)) := by omega
      have i2' : (t : Int) < (n : Int) := by omega
      have i3 : ¬ ((n : Int) < (O.length : Int)) := by omega
      have hft : t ≤ fuel := by have := unhide HL; omega
      have HW := hide (show walkF (N.map Nd.kids) (fuel + 1) (t : Int) O = kidsF (walkF (N.map Nd.kids) fuel) (t : Int) (N[t].kids) O by
        rw [walkF]
        dsimp only
        rw [if_neg (by rw [unhide HK]; exact hu), Int.toNat_natCast, List.getD_eq_getElem?_getD, List.getElem?_map, List.getElem?_eq_getElem htl]
        rfl)
      have hk3 : N[t].kids.length ≤ 3 := unhide H3 _ (List.mem_map_of_mem (List.getElem_mem htl))
      rw [unhide HW]
      clear HW hu
      obtain ⟨b, off, rfl, hbl, an, nn, cn, ak, nk, ck, c0, c1, c2, c3, c4, hNm, hKd⟩ := hN.cells t htl
      have c4 := (hb.cell (p := ⟨b, off + t * 5 + 4, none⟩) hbl).trans c4
      have HWL := hide (fun k O => walkF_len (K := N.map Nd.kids) (unhide H3) fuel k O)
      rw [unhide HK] at HWL
      generalize N[t] = x at c0 c1 c2 c3 c4 hNm hKd hk3 ⊢
      generalize walkF (N.map Nd.kids) fuel = F at ih HWL ⊢
      have HKL := hide hKd.len
      have hnk : nk ≤ 3 := by rw [← hKd.len]; exact hk3
      obtain ⟨xv, cv, rfl, _⟩ := owns_form2 O1
      have HRR := hide (show kidsF F (t : Int) (x.kids.drop 0) O = kidsF F (t : Int) x.kids O by rw [List.drop_zero])
      generalize kidsF F (t : Int) x.kids O = R at HRR ⊢
      clear c0 c1 c2 c3 hk3
      go_enter Tryz.func44, Tryz.ntmps44
      go_wp2_with fail
      go_loopw [2, 33] (fun u i wr => ∃ (j : Nat) (O' : List Int), j ≤ nk ∧ i = .int .i64 j ∧ Hid (kidsF F (t : Int) (x.kids.drop j) O' = R) ∧ O'.length ≤ n + 3 * fuel + j ∧ wr.ownsRow B 3 1 u O'.length (intsV O') ∧ Below B w wr ∧ Keep w (.slice xv O.length cv) wr u) (fun _ i _ => nk - (intOf i).toNat)
      case atStart => exact ⟨0, O, by omega, rfl, HRR, by omega, O1, Below.refl _ _, Keep.refl _ _⟩
      case round =>
        obtain ⟨j, O', hj, rfl, HJ, hOl, P1, E1, KE⟩ := hrel
        obtain ⟨xu, cu, rfl, _⟩ := owns_form2 P1
        have E1s := Nat.le_trans hBw E1.size
        have E0 := hb.trans (E1.mono hB)
        by_cases hjl : j < nk
        · have ijl : (j : Int) < (nk : Int) := by omega
          have hjk : j < x.kids.length := by rw [unhide HKL]; exact hjl
          obtain ⟨bk, ok, rfl, hbk, ck0⟩ := (hKd.below E0 (Nat.le_refl _)).cells j hjk
          have HD := hide (kidsF_drop (f := F) (top := (t : Int)) hjk O')
          rw [unhide HJ] at HD
          have Hjl := hide hjl
          generalize x.kids[j] = y at ck0 HD
          by_cases hy : (t : Int) ≤ y
          · have HX := hide (show R = O' ++ [-1] by rw [unhide HD, if_pos hy])
            go_wp2_with (at_builtin; refine wpList_append_lies _ rfl _ _ 24 rfl B 3 i (.int .i64 0) 1 8 Tryz.underlying24 hi hz0 hz1 hz2 rfl (by decide) _ _ _ rfl (World.ownsRow.alloc P1 _) ⟨wr.heap.size, 0, none⟩ 1 1 [.int .i64 (-1)] rfl rfl ?d1 ?d2 (by decide) ?d3 ?d4 ?d5 _ rfl ?_)
            first | (case d1 => exact one_cell _ _ _ _ (by simp)) | skip
            case d2 => first | (intro u hu; simp at hu; subst hu; rfl) | rfl
            case d3 => unfold maxLen; omega
            case d4 => omega
            case d5 => first | (simp; omega) | omega
            intro g cap w3 O3 hgrow hat hgl
            have KP := keep_append (n := O'.length + 1) (c := cap) hgrow hat
            have B3 := (E1.alloc E1s (.cells #[.int .i64 (-1)] 3)).grown hgrow (by simp; omega) (fun q hq => (P1.lt q hq).1)
            have O4 := owns_snoc O3
            clear hgrow hat O3
            go_wp2_with fail
            go_ret
            exact ⟨_, rfl, by rw [unhide HX]; exact O4, B3, KE.trans KP⟩
          · have HX := hide (show kidsF F (t : Int) (x.kids.drop (j + 1)) (F y O') = R by rw [unhide HD, if_neg hy])
            have hwl := unhide HWL y O'
            clear HD
            go_wp2_with (go_at_call 44; refine (ih y O' _ wr (by omega) (by omega) (by omega) E0 E1s P1).mono ?_; rintro e w2 ⟨v2, rfl, O2, hb2, K2⟩)
            go_roundw
            case rel => exact ⟨j + 1, F y O', unhide Hjl, by go_num, HX, by omega, O2, E1.trans hb2, KE.trans K2⟩
            case measure => have := unhide Hjl; simp [intOf]; omega
        · have e : j = nk := by omega
          subst e
          have HX := hide (show R = O' ++ [(t : Int)] by
            rw [← unhide HJ, List.drop_of_length_le (by rw [unhide HKL]; exact Nat.le_refl _), kidsF])
          go_wp2_with (at_builtin; refine wpList_append_lies _ rfl _ _ 24 rfl B 3 i (.int .i64 0) 1 8 Tryz.underlying24 hi hz0 hz1 hz2 rfl (by decide) _ _ _ rfl (World.ownsRow.alloc P1 _) ⟨wr.heap.size, 0, none⟩ 1 1 [.int .i64 (t : Int)] rfl rfl ?e1 ?e2 (by decide) ?e3 ?e4 ?e5 _ rfl ?_)
          first | (case e1 => exact one_cell _ _ _ _ (by simp)) | skip
          case e2 => first | (intro u hu; simp at hu; subst hu; rfl) | rfl
          case e3 => unfold maxLen; omega
          case e4 => omega
          case e5 => first | (simp; omega) | omega
          intro g cap w3 O3 hgrow hat hgl
          have KP := keep_append (n := O'.length + 1) (c := cap) hgrow hat
          have B3 := (E1.alloc E1s (.cells #[.int .i64 (t : Int)] 3)).grown hgrow (by simp; omega) (fun q hq => (P1.lt q hq).1)
          have O4 := owns_snoc O3
          clear hgrow hat O3
          go_wp2_with fail
          go_ret
          exact ⟨_, rfl, by rw [unhide HX]; exact O4, B3, KE.trans KP⟩

end Go.Proofs.YtjapdeehnfoonaaGreatDoor

namespace Go.Proofs.YtjapdeehnfoonaaGreatDoor
open Go.RowKit
set_option linter.unusedVariables false

/-- as the program asks, but for the kids -/
def tfB (x : Nd) : Bool :=
  if x.op = 5 then false
  else if x.op = 6 then decide (0 ≤ x.num ∧ x.num < 6) && decide (x.text.size = 0) && decide (x.names.length = 0)
  else if x.op = 7 ∨ x.op = 1 then decide (x.text.size = 0) && decide (x.names.length = 0)
  else wfB x

def fieldsT (x : Nd) : Bool := decide ((x.kids.length : Int) = kidN x.op) && tfB x

/-- as the model asks -/
def fieldsU (x : Nd) : Bool :=
  decide ((x.kids.length : Int) = kidN x.op) &&
  (if x.op = 1 then decide (x.text.size = 0) && decide (x.names.length = 0)
   else if x.op = 2 then quotedB x.text && decide (x.num = 0) && decide (x.names.length = 0)
   else if x.op = 3 then decide (x.num = 0 ∨ x.num = 1) && decide (x.text.size = 0) && decide (x.names.length = 0)
   else if x.op = 4 then setB x.names && decide (x.num = 0) && decide (x.text.size = 0)
   else if x.op = 5 then false
   else if x.op = 6 then decide (0 ≤ x.num ∧ x.num ≤ 5) && decide (x.text.size = 0) && decide (x.names.length = 0)
   else if x.op = 7 then decide (0 ≤ x.num ∧ x.num < 600) && decide (x.text.size = 0) && decide (x.names.length = 0)
   else decide (x.num = 0) && decide (x.text.size = 0) && decide (x.names.length = 0))

/-- the two differ at lets alone -/
theorem fieldsU_iff (x : Nd) : fieldsU x = true ↔ fieldsT x = true ∧ (x.op = 7 → 0 ≤ x.num ∧ x.num < 600) := by
  unfold fieldsU fieldsT tfB wfB
  by_cases h1 : x.op = 1
  · simp [h1]
  by_cases h2 : x.op = 2
  · simp [h2]
  by_cases h3 : x.op = 3
  · simp [h3]
  by_cases h4 : x.op = 4
  · simp [h4]
  by_cases h5 : x.op = 5
  · simp [h5]
  by_cases h6 : x.op = 6
  · simp only [h6]
    simp
    omega
  by_cases h7 : x.op = 7
  · simp only [h7]
    simp
    constructor
    · rintro ⟨a, ⟨⟨b, c⟩, d⟩, e⟩; exact ⟨⟨a, d, e⟩, b, c⟩
    · rintro ⟨⟨a, d, e⟩, b, c⟩; exact ⟨a, ⟨⟨b, c⟩, d⟩, e⟩
  · simp [h1, h2, h3, h4, h5, h6, h7]

end Go.Proofs.YtjapdeehnfoonaaGreatDoor

namespace Go.Proofs.YtjapdeehnfoonaaGreatDoor
open Go.RowKit
set_option linter.unusedVariables false

/-- all of them, or none -/
def allO : List (Option Int) → Option (List Int)
  | [] => some []
  | none :: _ => none
  | some t :: r => (allO r).map (t :: ·)

theorem allO_len : ∀ {os : List (Option Int)} {K : List Int}, allO os = some K → K.length = os.length
  | [], K, h => by cases h; rfl
  | none :: _, K, h => by cases h
  | some t :: r, K, h => by
    rw [allO] at h
    obtain ⟨K', h1, h2⟩ := Option.map_eq_some_iff.1 h
    rw [← h2, List.length_cons, List.length_cons, allO_len h1]

theorem allO_snoc (o : Option Int) : ∀ (os : List (Option Int)) (K : List Int), allO os = some K → allO (os ++ [o]) = o.map (fun t => K ++ [t])
  | [], K, h => by cases h; cases o <;> rfl
  | none :: _, K, h => by cases h
  | some t :: r, K, h => by
    rw [allO] at h
    obtain ⟨K', h1, h2⟩ := Option.map_eq_some_iff.1 h
    rw [List.cons_append, allO, allO_snoc o r K' h1, ← h2]
    cases o <;> rfl

theorem allO_none : ∀ (os : List (Option Int)) (k : Nat), allO (os.take k) = none → allO os = none
  | [], k, h => by simpa using h
  | none :: _, k, h => rfl
  | some t :: r, 0, h => by cases h
  | some t :: r, k + 1, h => by
    rw [List.take_succ_cons, allO, Option.map_eq_none_iff] at h
    rw [allO, allO_none r k h]
    rfl

def NdAns (o : Option Int) (w : World) (r : Ending) (w' : World) : Prop := (∃ ty code, r = .returned (.tuple #[.int .i64 ty, .int .i64 code]) ∧ ((code = 0 ∧ o = some ty) ∨ (code ≠ 0 ∧ o = none))) ∧ Below w.heap.size w w'

def tyN (op : Int) (os : List (Option Int)) : Option Int := match allO os with
  | none => none
  | some K => nz (typeL op K)

set_option maxRecDepth 100000 in
set_option maxHeartbeats 3200000 in
theorem l3node_kids (a : Option Addr) (n c : Nat) (N : List Nd) (lb : Nat) (w : World) (hN : Nds w a n c N) (i : Nat) (x : Nd) (hx : N[i]? = some x) (hop : opOK x.op) (hl : (rowL x.op).1.length ≤ x.kids.length) (os : List (Option Int)) (ho : os.length = x.kids.length)
    (V : ∀ j, (h : j < x.kids.length) → (h2 : j < os.length) → ∀ W, Below w.heap.size w W → Calls Tryz.prog 64 #[.slice a n c, .int .i64 x.kids[j], .pointer (some ⟨lb, 0, none⟩)] W (NdAns os[j] W)) :
    Calls Tryz.prog 64 #[.slice a n c, .int .i64 i, .pointer (some ⟨lb, 0, none⟩)] w (NdAns (tyN x.op os) w) := by
  obtain ⟨ii, hii, ez0, ez1, ez2⟩ := info_parts infoI
  have hnN := hN.small
  have hlen := hN.len
  have hi : i < N.length := (List.getElem?_eq_some_iff.1 hx).1
  have hxe : N[i] = x := (List.getElem?_eq_some_iff.1 hx).2
  have iin : (i : Int) < (n : Int) := by omega
  obtain ⟨b, off, rfl, hbl, an, nn, cn, ak, nk, ck, c0, c1, c2, c3, c4, hNm, hKd⟩ := hN.cells i hi
  rw [hxe] at c0 c1 c2 hKd
  have HKL := hide hKd.len
  have hnk := hKd.small
  have HO := hide ho
  have HV := hide V
  have HL := hide hl
  have HT := hide (fun K h => (show tyN x.op os = nz (typeL x.op K) by rw [tyN, (show allO os = some K from h)]))
  have HTN := hide (show allO os = none → tyN x.op os = none from fun h => by rw [tyN, h])
  have n5 : (x.op == 5) = false := beq_eq_false_iff_ne.2 (by unfold opOK at hop; omega)
  have n6 : (x.op == 6) = false := beq_eq_false_iff_ne.2 (by unfold opOK at hop; omega)
  have n7 : (x.op == 7) = false := beq_eq_false_iff_ne.2 (by unfold opOK at hop; omega)
  have HOP := hide hop
  clear hNm
  clear hlen hx hxe hi hl ho V hop
  have R0 := Row.new w #[.int .i64 x.op, .int .i64 x.num, .string x.text, .slice an nn cn, .slice ak nk ck] 69
  have B0 := (Below.refl w.heap.size w).alloc (Nat.le_refl _) (.cells #[.int .i64 x.op, .int .i64 x.num, .string x.text, .slice an nn cn, .slice ak nk ck] 69)
  have z0 : w.heap.size < (w.alloc (.cells #[.int .i64 x.op, .int .i64 x.num, .string x.text, .slice an nn cn, .slice ak nk ck] 69)).heap.size := by simp
  go_enter Tryz.func64, Tryz.ntmps64
  go_wp2_with fail
  generalize w.alloc (.cells #[.int .i64 x.op, .int .i64 x.num, .string x.text, .slice an nn cn, .slice ak nk ck] 69) = W1 at R0 B0 z0 ⊢
  go_loopw [11, 71] (fun v i wr => ∃ (j : Nat) (K : List Int), j ≤ nk ∧ i = .int .i64 j ∧ wr.ownsRow W1.heap.size 3 1 v K.length (intsV K) ∧ Hid (allO (os.take j) = some K) ∧ Below W1.heap.size W1 wr) (fun _ i _ => nk - (intOf i).toNat)
  case atStart => exact ⟨0, [], by omega, rfl, World.ownsRow_nil _ _ _ _, hide rfl, Below.refl _ _⟩
  case round =>
    obtain ⟨j, K, hj, rfl, Q1, HK, D1⟩ := hrel
    have E1 := B0.trans (D1.mono B0.size)
    have zd := D1.size
    have hKl : K.length ≤ nk := by have := allO_len (unhide HK); rw [List.length_take] at this; omega
    by_cases hjl : j < nk
    · have ijl : (j : Int) < (nk : Int) := by omega
      have hjk : j < x.kids.length := by rw [unhide HKL]; exact hjl
      have hjo : j < os.length := by rw [unhide HO]; exact hjk
      obtain ⟨bk, ok, rfl, hbk, ck0⟩ := (hKd.below E1 (Nat.le_refl _)).cells j hjk
      have HC := hide (unhide HV j hjk hjo _ E1)
      have HS := hide (show allO (os.take (j + 1)) = os[j].map (fun t => K ++ [t]) by rw [List.take_succ_eq_append_getElem hjo]; exact allO_snoc _ _ _ (unhide HK))
      have HZ := hide (show os[j] = none → tyN x.op os = none from fun e => unhide HTN (allO_none os (j + 1) (by rw [unhide HS, e]; rfl)))
      have Hjl := hide hjl
      generalize x.kids[j] = y at ck0 HC
      generalize os[j] = oj at HC HS HZ
      obtain ⟨xv, cv, rfl, _⟩ := owns_form2 Q1
      clear hjk hjo hjl
      go_wp2_with fail
      refine (unhide HC).mono ?_
      rintro r w2 ⟨⟨ty, code, rfl, hr⟩, hb2⟩
      have D2 := D1.trans (hb2.mono zd)
      have Q2 := ownsRow_below Q1 hb2 (Nat.le_refl _)
      rcases hr with ⟨rfl, rfl⟩ | ⟨hc, rfl⟩
      · have HS2 := hide (show allO (os.take (j + 1)) = some (K ++ [ty]) from unhide HS)
        have zd2 := D2.size
        clear HS HZ HC
        dsimp only
        go_wp2_with (at_builtin; refine wpList_append_own _ rfl _ _ 24 rfl W1.heap.size 3 ii (.int .i64 0) 1 8 Tryz.underlying24 hii ez0 ez1 ez2 rfl (by decide) _ _ _ rfl (World.ownsRow.alloc Q2 _) ⟨w2.heap.size, 0, none⟩ 1 1 [.int .i64 ty] rfl rfl ?d1 ?d2 ?d3 ?d4 ?d5 ?_)
        case d1 => exact one_cell _ _ _ _ (by simp)
        case d2 => intro u hu; simp at hu; subst hu; rfl
        case d3 => unfold maxLen; omega
        case d4 => omega
        case d5 => simp; omega
        intro v' w3 Q3 hgrow _
        have D3 := (D2.alloc D2.size (.cells #[.int .i64 ty] 3)).grown hgrow (by simp; omega) (fun q hq => (Q2.lt q hq).1)
        clear hgrow
        go_wp2_with fail
        go_roundw
        case rel => exact ⟨j + 1, K ++ [ty], unhide Hjl, by go_num, owns_snoc Q3, HS2, D3⟩
        case measure => have := unhide Hjl; simp [intOf]; omega
      · have ec : (code != 0) = true := bne_iff_ne.2 hc
        have HX := hide (unhide HZ rfl)
        have Hc := hide hc
        clear hc HS HZ HC
        dsimp only
        go_wp2_with fail
        exact bodyPost_ret (v := .tuple #[.int .i64 0, .int .i64 code]) (by simp [results, Tryz.results64, go_sem]) rfl ⟨⟨_, _, rfl, .inr ⟨unhide Hc, unhide HX⟩⟩, B0.trans (D2.mono B0.size)⟩
    · have e : j = nk := by omega
      subst e
      have HA := hide (show allO os = some K by rw [← unhide HK, List.take_of_length_le (by rw [unhide HO, unhide HKL]; exact Nat.le_refl _)])
      have HX := hide (unhide HT K (unhide HA))
      have hl2 := allO_len (unhide HA)
      have HLK := hide (show (rowL x.op).1.length ≤ K.length by have := unhide HL; have := unhide HO; omega)
      obtain ⟨xv, cv, rfl, _⟩ := owns_form2 Q1
      have J1 := ints_of_row Q1 (by omega)
      have R1 := R0.below D1 z0
      have q0 : wr.cell? ⟨w.heap.size, 0, none⟩ = some (.int .i64 x.op) := R1.cell 0
      clear hl2
      go_wp2_with fail
      refine (l3type_any x.op (unhide HOP) _ _ _ K _ J1 (unhide HLK)).mono ?_
      rintro r w4 ⟨rfl, hb4⟩
      have D4 := D1.trans (hb4.mono zd)
      dsimp only
      by_cases ht : typeL x.op K = 0
      · have et : (typeL x.op K == 0) = true := beq_iff_eq.2 ht
        have HY := hide (show tyN x.op os = none by rw [unhide HX, nz, if_pos ht])
        clear ht HX
        generalize typeL x.op K = tt at et
        go_wp2_with fail
        exact bodyPost_ret (v := .tuple #[.int .i64 0, .int .i64 9]) (by simp [results, Tryz.results64, go_sem]) rfl ⟨⟨_, _, rfl, .inr ⟨by decide, unhide HY⟩⟩, B0.trans (D4.mono B0.size)⟩
      · have et : (typeL x.op K == 0) = false := beq_eq_false_iff_ne.2 ht
        have HY := hide (show tyN x.op os = some (typeL x.op K) by rw [unhide HX, nz, if_neg ht])
        clear ht HX
        generalize typeL x.op K = tt at et HY
        go_wp2_with fail
        exact bodyPost_ret (v := .tuple #[.int .i64 tt, .int .i64 0]) (by simp [results, Tryz.results64, go_sem]) rfl ⟨⟨_, _, rfl, .inl ⟨rfl, unhide HY⟩⟩, B0.trans (D4.mono B0.size)⟩

end Go.Proofs.YtjapdeehnfoonaaGreatDoor

/-
  VPN, VPO, VPT. Own work.
-/
import Derived.Test.YtbdplgelkgngmaaGreatDoorVPK
import Derived.Deep.AppendLies
namespace Go.Proofs.YtbdplgelkgngmaaGreatDoor
open Go.RowKit
set_option linter.unusedVariables false

theorem kidsF_len {f : Int → List Int → List Int} {M : Nat} (hf : ∀ k O, (f k O).length ≤ max O.length M + 1) (top : Int) : ∀ (ks O : List Int), (kidsF f top ks O).length ≤ max O.length M + ks.length + 1
  | [], O => by rw [kidsF, List.length_append, List.length_singleton, List.length_nil]; omega
  | k :: ks, O => by
    rw [kidsF]
    split
    · rw [List.length_append, List.length_singleton, List.length_cons]; omega
    · have h1 := kidsF_len hf top ks (f k O)
      have h2 := hf k O
      rw [List.length_cons]; omega

theorem walkF_len {K : List (List Int)} (h3 : ∀ ks ∈ K, ks.length ≤ 3) : ∀ (n : Nat) (top : Int) (O : List Int), (walkF K n top O).length ≤ max O.length (K.length + 3 * n) + 1
  | 0, top, O => by rw [walkF, List.length_append, List.length_singleton]; omega
  | n + 1, top, O => by
    rw [walkF]
    dsimp only
    split
    · rw [List.length_append, List.length_singleton]; omega
    · rename_i hc
      have h1 := kidsF_len (M := K.length + 3 * n) (walkF_len h3 n) top (K.getD top.toNat []) O
      have h2 : (K.getD top.toNat []).length ≤ 3 := by
        rw [List.getD_eq_getElem?_getD]
        cases e : K[top.toNat]? with
        | none => simp
        | some ks => exact h3 ks (List.mem_of_getElem? e)
      omega

/-- all that was is as it was, but for the row; the row lies where it lay, or in a new block -/
def Keep (w : World) (v : Value) (w' : World) (v' : Value) : Prop := (∀ k, k < w.heap.size → some k ≠ v.ownBlock → w'.heap[k]? = w.heap[k]?) ∧ (∀ q, v'.ownBlock = some q → v.ownBlock = some q ∨ w.heap.size ≤ q) ∧ w.heap.size ≤ w'.heap.size

theorem Keep.refl (w : World) (v : Value) : Keep w v w v := ⟨fun _ _ _ => rfl, fun q h => .inl h, Nat.le_refl _⟩

theorem Keep.trans {w w1 w2 : World} {v v1 v2 : Value} (h : Keep w v w1 v1) (k : Keep w1 v1 w2 v2) : Keep w v w2 v2 :=
  ⟨fun j hj hne => (k.1 j (Nat.lt_of_lt_of_le hj h.2.2) (fun e => by
    rcases h.2.1 j e.symm with e' | e'
    · exact hne e'.symm
    · omega)).trans (h.1 j hj hne), fun q hq => by
    rcases k.2.1 q hq with e | e
    · exact h.2.1 q e
    · exact .inr (Nat.le_trans h.2.2 e), Nat.le_trans h.2.2 k.2.2⟩

theorem keep_append {w w' : World} {o : Obj} {v : Value} {g n c : Nat} (hg : (w.alloc o).grownBy w' v.ownBlock) (ha : v.ownBlock = some g ∨ g = w.heap.size + 1) : Keep w v w' (.slice (some ⟨g, 0, none⟩) n c) :=
  ⟨fun k hk hne => (hg.block k (by simp; omega) hne).trans (Below.heap_alloc w o k hk), fun q hq => by
    have : g = q := by simpa [Value.ownBlock] using hq
    subst this
    rcases ha with e | e
    · exact .inl e
    · right; omega, by have := hg.size; simp at this; omega⟩

theorem Row.keep {w w' : World} {v v' : Value} {b : Nat} {cs : Array Value} {t : TypeId} (R : Row w b cs t) (h : Keep w v w' v') (hne : v.ownBlock ≠ some b) : Row w' b cs t := ⟨(h.1 b R.lt (fun e => hne e.symm)).trans R.out⟩

def WalkAns (B : Nat) (w : World) (v : Value) (R : List Int) (e : Ending) (w' : World) : Prop := ∃ v', e = .returned v' ∧ w'.ownsRow B 3 1 v' R.length (intsV R) ∧ Below B w w' ∧ Keep w v w' v'

theorem owns_snoc {w : World} {B : Nat} {v : Value} {O : List Int} {x : Int} (h : w.ownsRow B 3 1 v (O.length + 1) (intsV O ++ [.int .i64 x])) : w.ownsRow B 3 1 v (O ++ [x]).length (intsV (O ++ [x])) := by
  rw [List.length_append, List.length_singleton, intsV, List.map_append]
  exact h

theorem walk_unfit {K : List (List Int)} {n : Nat} {top : Int} {O : List Int} (h : top < 0 ∨ (K.length : Int) ≤ top ∨ K.length < O.length) : ∀ fuel, walkF K fuel top O = O ++ [-1]
  | 0 => rfl
  | n + 1 => by rw [walkF]; exact if_pos h

set_option maxRecDepth 100000 in
set_option maxHeartbeats 6400000 in
theorem l2walk_unfit (a : Option Addr) (n c : Nat) (B : Nat) (top : Int) (O : List Int) (v : Value) (w : World) (hn : n ≤ 4000) (h : top < 0 ∨ (n : Int) ≤ top ∨ n < O.length) (hO : O.length ≤ 100000) (hBw : B ≤ w.heap.size) (O1 : w.ownsRow B 3 1 v O.length (intsV O)) :
    Calls Tryz.prog 42 #[.slice a n c, .int .i64 top, v] w fun e w' => WalkAns B w v (O ++ [-1]) e w' := by
  obtain ⟨i, hi, hz0, hz1, hz2⟩ := info_parts infoI
  obtain ⟨xv, cv, rfl, _⟩ := owns_form2 O1
  rcases (show top < 0 ∨ (0 ≤ top ∧ (n : Int) ≤ top) ∨ (0 ≤ top ∧ top < n ∧ n < O.length) by omega) with h1 | ⟨h0, h2⟩ | ⟨h0, h2, h3⟩
  · have i1 : top < 0 := h1
    go_enter Tryz.func42, Tryz.ntmps42
    go_wp2_with (at_builtin; refine wpList_append_lies _ rfl _ _ 61 rfl B 3 i (.int .i64 0) 1 8 Tryz.underlying61 hi hz0 hz1 hz2 rfl (by decide) _ _ _ rfl (World.ownsRow.alloc O1 _) ⟨w.heap.size, 0, none⟩ 1 1 [.int .i64 (-1)] rfl rfl ?a1 ?a2 (by decide) ?a3 ?a4 ?a5 _ rfl ?_)
    first | (case a1 => exact one_cell _ _ _ _ (by simp)) | skip
    case a2 => first | (intro u hu; simp at hu; subst hu; rfl) | rfl
    case a3 => unfold maxLen; omega
    case a4 => omega
    case a5 => first | (simp; omega) | omega
    intro g cap w3 O3 hgrow hat hgl
    have KP := keep_append (n := O.length + 1) (c := cap) hgrow hat
    have B3 := ((Below.refl B w).alloc hBw (.cells #[.int .i64 (-1)] 3)).grown hgrow (by simp; omega) (fun q hq => (O1.lt q hq).1)
    have O4 := owns_snoc O3
    clear hgrow hat O3
    go_wp2_with fail
    go_ret
    exact ⟨_, rfl, O4, B3, KP⟩
  · have i1 : ¬ top < 0 := by omega
    have i2 : (n : Int) ≤ top := h2
    go_enter Tryz.func42, Tryz.ntmps42
    go_wp2_with (at_builtin; refine wpList_append_lies _ rfl _ _ 61 rfl B 3 i (.int .i64 0) 1 8 Tryz.underlying61 hi hz0 hz1 hz2 rfl (by decide) _ _ _ rfl (World.ownsRow.alloc O1 _) ⟨w.heap.size, 0, none⟩ 1 1 [.int .i64 (-1)] rfl rfl ?b1 ?b2 (by decide) ?b3 ?b4 ?b5 _ rfl ?_)
    first | (case b1 => exact one_cell _ _ _ _ (by simp)) | skip
    case b2 => first | (intro u hu; simp at hu; subst hu; rfl) | rfl
    case b3 => unfold maxLen; omega
    case b4 => omega
    case b5 => first | (simp; omega) | omega
    intro g cap w3 O3 hgrow hat hgl
    have KP := keep_append (n := O.length + 1) (c := cap) hgrow hat
    have B3 := ((Below.refl B w).alloc hBw (.cells #[.int .i64 (-1)] 3)).grown hgrow (by simp; omega) (fun q hq => (O1.lt q hq).1)
    have O4 := owns_snoc O3
    clear hgrow hat O3
    go_wp2_with fail
    go_ret
    exact ⟨_, rfl, O4, B3, KP⟩
  · have i1 : ¬ top < 0 := by omega
    have i2 : ¬ ((n : Int) ≤ top) := by omega
    have i3 : (n : Int) < (O.length : Int) := by omega
    go_enter Tryz.func42, Tryz.ntmps42
    go_wp2_with (at_builtin; refine wpList_append_lies _ rfl _ _ 61 rfl B 3 i (.int .i64 0) 1 8 Tryz.underlying61 hi hz0 hz1 hz2 rfl (by decide) _ _ _ rfl (World.ownsRow.alloc O1 _) ⟨w.heap.size, 0, none⟩ 1 1 [.int .i64 (-1)] rfl rfl ?c1 ?c2 (by decide) ?c3 ?c4 ?c5 _ rfl ?_)
    first | (case c1 => exact one_cell _ _ _ _ (by simp)) | skip
    case c2 => first | (intro u hu; simp at hu; subst hu; rfl) | rfl
    case c3 => unfold maxLen; omega
    case c4 => omega
    case c5 => first | (simp; omega) | omega
    intro g cap w3 O3 hgrow hat hgl
    have KP := keep_append (n := O.length + 1) (c := cap) hgrow hat
    have B3 := ((Below.refl B w).alloc hBw (.cells #[.int .i64 (-1)] 3)).grown hgrow (by simp; omega) (fun q hq => (O1.lt q hq).1)
    have O4 := owns_snoc O3
    clear hgrow hat O3
    go_wp2_with fail
    go_ret
    exact ⟨_, rfl, O4, B3, KP⟩

theorem kidsF_drop {f : Int → List Int → List Int} {top : Int} {ks : List Int} {j : Nat} (hj : j < ks.length) (O : List Int) : kidsF f top (ks.drop j) O = if top ≤ ks[j] then O ++ [-1] else kidsF f top (ks.drop (j + 1)) (f ks[j] O) := by
  rw [List.drop_eq_getElem_cons hj, kidsF]

set_option maxRecDepth 100000 in
set_option maxHeartbeats 6400000 in
theorem l2walk_any (a : Option Addr) (n c : Nat) (N : List Nd) (w0 : World) (B : Nat) (hN : Nds w0 a n c N) (hB : w0.heap.size ≤ B) (hn : n ≤ 4000) (h3 : ∀ ks ∈ N.map Nd.kids, ks.length ≤ 3) :
    ∀ (fuel : Nat) (top : Int) (O : List Int) (v : Value) (w : World), fuel ≤ 4000 → (N.length ≤ fuel ∨ top < fuel) → O.length ≤ 100000 → Below w0.heap.size w0 w → B ≤ w.heap.size → w.ownsRow B 3 1 v O.length (intsV O) →
    Calls Tryz.prog 42 #[.slice a n c, .int .i64 top, v] w fun e w' => WalkAns B w v (walkF (N.map Nd.kids) fuel top O) e w' := by
  have HL := hide hN.len
  have HK := hide (show (N.map Nd.kids).length = n by rw [List.length_map, hN.len])
  have H3 := hide h3
  obtain ⟨i, hi, hz0, hz1, hz2⟩ := info_parts infoI
  intro fuel
  induction fuel with
  | zero =>
    intro top O v w _ hf hO hb hBw O1
    have hl := unhide HL
    rw [walk_unfit (K := N.map Nd.kids) (n := n) (by rw [List.length_map]; omega) 0]
    exact l2walk_unfit a n c B top O v w hn (by omega) hO hBw O1
  | succ fuel ih =>
    intro top O v w hfl hf hO hb hBw O1
    by_cases hu : top < 0 ∨ (n : Int) ≤ top ∨ n < O.length
    · rw [walk_unfit (K := N.map Nd.kids) (n := n) (by rw [unhide HK]; exact hu) (fuel + 1)]
      exact l2walk_unfit a n c B top O v w hn hu hO hBw O1
    · obtain ⟨t, rfl⟩ : ∃ t : Nat, top = (t : Int) := ⟨top.toNat, by omega⟩
      have htn : t < n := by omega
      have hOn : O.length ≤ n := by omega
      have htl : t < N.length := by rw [unhide HL]; exact htn
      have i1 : ¬ ((t : Int) < 0) := by omega
      have i2 : ¬ ((n : Int) ≤ (t : Int)) := by omega
      have i2' : (t : Int) < (n : Int) := by omega
      have i3 : ¬ ((n : Int) < (O.length : Int)) := by omega
      have hft : t ≤ fuel := by have := unhide HL; omega
      have HW := hide (show walkF (N.map Nd.kids) (fuel + 1) (t : Int) O = kidsF (walkF (N.map Nd.kids) fuel) (t : Int) (N[t].kids) O by
        rw [walkF]
        dsimp only
        rw [if_neg (by rw [unhide HK]; exact hu), Int.toNat_natCast, List.getD_eq_getElem?_getD, List.getElem?_map, List.getElem?_eq_getElem htl]
        rfl)
      have hk3 : N[t].kids.length ≤ 3 := unhide H3 _ (List.mem_map_of_mem (List.getElem_mem htl))
      rw [unhide HW]
      clear HW hu
      obtain ⟨b, off, rfl, hbl, an, nn, cn, ak, nk, ck, c0, c1, c2, c3, c4, hNm, hKd⟩ := hN.cells t htl
      have c4 := (hb.cell (p := ⟨b, off + t * 5 + 4, none⟩) hbl).trans c4
      have HWL := hide (fun k O => walkF_len (K := N.map Nd.kids) (unhide H3) fuel k O)
      rw [unhide HK] at HWL
      generalize N[t] = x at c0 c1 c2 c3 c4 hNm hKd hk3 ⊢
      generalize walkF (N.map Nd.kids) fuel = F at ih HWL ⊢
      have HKL := hide hKd.len
      have hnk : nk ≤ 3 := by rw [← hKd.len]; exact hk3
      obtain ⟨xv, cv, rfl, _⟩ := owns_form2 O1
      have HRR := hide (show kidsF F (t : Int) (x.kids.drop 0) O = kidsF F (t : Int) x.kids O by rw [List.drop_zero])
      generalize kidsF F (t : Int) x.kids O = R at HRR ⊢
      clear c0 c1 c2 c3 hk3
      go_enter Tryz.func42, Tryz.ntmps42
      go_wp2_with fail
      go_loopw [2, 33] (fun u i wr => ∃ (j : Nat) (O' : List Int), j ≤ nk ∧ i = .int .i64 j ∧ Hid (kidsF F (t : Int) (x.kids.drop j) O' = R) ∧ O'.length ≤ n + 3 * fuel + j ∧ wr.ownsRow B 3 1 u O'.length (intsV O') ∧ Below B w wr ∧ Keep w (.slice xv O.length cv) wr u) (fun _ i _ => nk - (intOf i).toNat)
      case atStart => exact ⟨0, O, by omega, rfl, HRR, by omega, O1, Below.refl _ _, Keep.refl _ _⟩
      case round =>
        obtain ⟨j, O', hj, rfl, HJ, hOl, P1, E1, KE⟩ := hrel
        obtain ⟨xu, cu, rfl, _⟩ := owns_form2 P1
        have E1s := Nat.le_trans hBw E1.size
        have E0 := hb.trans (E1.mono hB)
        by_cases hjl : j < nk
        · have ijl : (j : Int) < (nk : Int) := by omega
          have hjk : j < x.kids.length := by rw [unhide HKL]; exact hjl
          obtain ⟨bk, ok, rfl, hbk, ck0⟩ := (hKd.below E0 (Nat.le_refl _)).cells j hjk
          have HD := hide (kidsF_drop (f := F) (top := (t : Int)) hjk O')
          rw [unhide HJ] at HD
          have Hjl := hide hjl
          generalize x.kids[j] = y at ck0 HD
          by_cases hy : (t : Int) ≤ y
          · have HX := hide (show R = O' ++ [-1] by rw [unhide HD, if_pos hy])
            go_wp2_with (at_builtin; refine wpList_append_lies _ rfl _ _ 61 rfl B 3 i (.int .i64 0) 1 8 Tryz.underlying61 hi hz0 hz1 hz2 rfl (by decide) _ _ _ rfl (World.ownsRow.alloc P1 _) ⟨wr.heap.size, 0, none⟩ 1 1 [.int .i64 (-1)] rfl rfl ?d1 ?d2 (by decide) ?d3 ?d4 ?d5 _ rfl ?_)
            first | (case d1 => exact one_cell _ _ _ _ (by simp)) | skip
            case d2 => first | (intro u hu; simp at hu; subst hu; rfl) | rfl
            case d3 => unfold maxLen; omega
            case d4 => omega
            case d5 => first | (simp; omega) | omega
            intro g cap w3 O3 hgrow hat hgl
            have KP := keep_append (n := O'.length + 1) (c := cap) hgrow hat
            have B3 := (E1.alloc E1s (.cells #[.int .i64 (-1)] 3)).grown hgrow (by simp; omega) (fun q hq => (P1.lt q hq).1)
            have O4 := owns_snoc O3
            clear hgrow hat O3
            go_wp2_with fail
            go_ret
            exact ⟨_, rfl, by rw [unhide HX]; exact O4, B3, KE.trans KP⟩
          · have HX := hide (show kidsF F (t : Int) (x.kids.drop (j + 1)) (F y O') = R by rw [unhide HD, if_neg hy])
            have hwl := unhide HWL y O'
            clear HD
            go_wp2_with (go_at_call 42; refine (ih y O' _ wr (by omega) (by omega) (by omega) E0 E1s P1).mono ?_; rintro e w2 ⟨v2, rfl, O2, hb2, K2⟩)
            go_roundw
            case rel => exact ⟨j + 1, F y O', unhide Hjl, by go_num, HX, by omega, O2, E1.trans hb2, KE.trans K2⟩
            case measure => have := unhide Hjl; simp [intOf]; omega
        · have e : j = nk := by omega
          subst e
          have HX := hide (show R = O' ++ [(t : Int)] by
            rw [← unhide HJ, List.drop_of_length_le (by rw [unhide HKL]; exact Nat.le_refl _), kidsF])
          go_wp2_with (at_builtin; refine wpList_append_lies _ rfl _ _ 61 rfl B 3 i (.int .i64 0) 1 8 Tryz.underlying61 hi hz0 hz1 hz2 rfl (by decide) _ _ _ rfl (World.ownsRow.alloc P1 _) ⟨wr.heap.size, 0, none⟩ 1 1 [.int .i64 (t : Int)] rfl rfl ?e1 ?e2 (by decide) ?e3 ?e4 ?e5 _ rfl ?_)
          first | (case e1 => exact one_cell _ _ _ _ (by simp)) | skip
          case e2 => first | (intro u hu; simp at hu; subst hu; rfl) | rfl
          case e3 => unfold maxLen; omega
          case e4 => omega
          case e5 => first | (simp; omega) | omega
          intro g cap w3 O3 hgrow hat hgl
          have KP := keep_append (n := O'.length + 1) (c := cap) hgrow hat
          have B3 := (E1.alloc E1s (.cells #[.int .i64 (t : Int)] 3)).grown hgrow (by simp; omega) (fun q hq => (P1.lt q hq).1)
          have O4 := owns_snoc O3
          clear hgrow hat O3
          go_wp2_with fail
          go_ret
          exact ⟨_, rfl, by rw [unhide HX]; exact O4, B3, KE.trans KP⟩

end Go.Proofs.YtbdplgelkgngmaaGreatDoor

namespace Go.Proofs.YtbdplgelkgngmaaGreatDoor
open Go.RowKit
set_option linter.unusedVariables false

/-- the depths of the kids -/
def deepK (F : Int → Nat) (ks : List Int) : Nat := ks.foldl (fun d k => max d (F k)) 0

theorem deepK_snoc (F : Int → Nat) (ks : List Int) (k : Int) : deepK F (ks ++ [k]) = max (deepK F ks) (F k) := by
  rw [deepK, List.foldl_append]; rfl

theorem deepK_le {F : Int → Nat} {M : Nat} (h : ∀ k, F k ≤ M) : ∀ (ks : List Int) (d : Nat), d ≤ M → ks.foldl (fun d k => max d (F k)) d ≤ M
  | [], d, hd => hd
  | k :: ks, d, hd => by
    rw [List.foldl_cons]
    exact deepK_le h ks _ (by have := h k; omega)

theorem depthF_le (K : List (List Int)) : ∀ (n : Nat) (t : Int), depthF K n t ≤ n + 1
  | 0, t => by rw [depthF]; show 1 ≤ 0 + 1; omega
  | n + 1, t => by
    rw [depthF]
    dsimp only
    have := deepK_le (F := depthF K n) (M := n + 1) (depthF_le K n) (K.getD t.toNat []) 0 (by omega)
    omega

set_option maxRecDepth 100000 in
set_option maxHeartbeats 3200000 in
theorem l2depth_any (a : Option Addr) (n c : Nat) (N : List Nd) (w0 : World) (hN : Nds w0 a n c N) (hOK : ∀ t, (h : t < N.length) → ∀ y ∈ N[t].kids, 0 ≤ y ∧ y < (t : Int)) :
    ∀ (fuel t : Nat) (w : World), fuel ≤ 4001 → t < n → t < fuel → Below w0.heap.size w0 w →
    Calls Tryz.prog 43 #[.slice a n c, .int .i64 t] w fun e w' => e = .returned (.int .i64 (depthF (N.map Nd.kids) fuel (t : Int))) ∧ Below w.heap.size w w' := by
  have HL := hide hN.len
  have HOK := hide hOK
  clear hOK
  intro fuel
  induction fuel with
  | zero => intro t w _ _ h; omega
  | succ fuel ih =>
    intro t w hfl htn htf hb
    have htl : t < N.length := by rw [unhide HL]; exact htn
    have itn : (t : Int) < (n : Int) := by omega
    have hk := unhide HOK t htl
    have HW := hide (show depthF (N.map Nd.kids) (fuel + 1) (t : Int) = deepK (depthF (N.map Nd.kids) fuel) N[t].kids + 1 by
      rw [depthF]
      dsimp only
      rw [Int.toNat_natCast, List.getD_eq_getElem?_getD, List.getElem?_map, List.getElem?_eq_getElem htl]
      rfl)
    have HWL := hide (depthF_le (N.map Nd.kids) fuel)
    obtain ⟨b, off, rfl, hbl, an, nn, cn, ak, nk, ck, c0, c1, c2, c3, c4, hNm, hKd⟩ := hN.cells t htl
    have c4 := (hb.cell (p := ⟨b, off + t * 5 + 4, none⟩) hbl).trans c4
    rw [unhide HW]
    clear HW c0 c1 c2 c3
    generalize N[t] = x at c4 hNm hKd hk ⊢
    generalize depthF (N.map Nd.kids) fuel = F at ih HWL ⊢
    have HKL := hide hKd.len
    have hnk := hKd.small
    have Hk := hide hk
    clear hk
    go_enter Tryz.func43, Tryz.ntmps43
    go_wp2_with fail
    go_loopw [5, 15] (fun d i wr => ∃ j : Nat, j ≤ nk ∧ i = .int .i64 j ∧ d = .int .i64 (deepK F (x.kids.take j)) ∧ deepK F (x.kids.take j) ≤ 4001 ∧ Below w.heap.size w wr) (fun _ i _ => nk - (intOf i).toNat)
    case atStart => exact ⟨0, by omega, rfl, rfl, by simp [deepK], Below.refl _ _⟩
    case round =>
      obtain ⟨j, hj, rfl, rfl, hd, B1⟩ := hrel
      have E0 := hb.trans (B1.mono hb.size)
      by_cases hjl : j < nk
      · have ijl : (j : Int) < (nk : Int) := by omega
        have hjk : j < x.kids.length := by rw [unhide HKL]; exact hjl
        obtain ⟨bk, ok, rfl, hbk, ck0⟩ := (hKd.below E0 (Nat.le_refl _)).cells j hjk
        obtain ⟨hy0, hyt⟩ := unhide Hk x.kids[j] (List.getElem_mem hjk)
        have HS := hide (show deepK F (x.kids.take (j + 1)) = max (deepK F (x.kids.take j)) (F x.kids[j]) by rw [List.take_succ_eq_append_getElem hjk, deepK_snoc])
        have Hjl := hide hjl
        generalize x.kids[j] = y at ck0 hy0 hyt HS
        obtain ⟨s, rfl⟩ : ∃ s : Nat, y = (s : Int) := ⟨y.toNat, by omega⟩
        have hF := unhide HWL (s : Int)
        generalize deepK F (x.kids.take j) = D at hd HS
        by_cases hgt : D < F (s : Int)
        · have igt : (D : Int) < (F (s : Int) : Int) := by omega
          have HM := hide (show deepK F (x.kids.take (j + 1)) = F (s : Int) by rw [unhide HS]; omega)
          go_wp2_with (go_at_call 43; refine (ih s wr (by omega) (by omega) (by omega) E0).mono ?_; rintro e w2 ⟨rfl, hb2⟩)
          go_roundw
          case rel => exact ⟨j + 1, unhide Hjl, by go_num, by rw [unhide HM], by rw [unhide HM]; omega, B1.trans (hb2.mono B1.size)⟩
          case measure => have := unhide Hjl; simp [intOf]; omega
        · have igt : ¬ ((D : Int) < (F (s : Int) : Int)) := by omega
          have HM := hide (show deepK F (x.kids.take (j + 1)) = D by rw [unhide HS]; omega)
          go_wp2_with (go_at_call 43; refine (ih s wr (by omega) (by omega) (by omega) E0).mono ?_; rintro e w2 ⟨rfl, hb2⟩)
          go_roundw
          case rel => exact ⟨j + 1, unhide Hjl, by go_num, by rw [unhide HM], by rw [unhide HM]; omega, B1.trans (hb2.mono B1.size)⟩
          case measure => have := unhide Hjl; simp [intOf]; omega
      · have e : j = nk := by omega
        subst e
        have HT := hide (show x.kids.take j = x.kids from List.take_of_length_le (by rw [unhide HKL]; exact Nat.le_refl _))
        rw [unhide HT] at hd ⊢
        generalize hD : deepK F x.kids = D at hd ⊢
        have HD := hide hD
        clear hD
        go_wp2_with fail
        go_ret
        exact ⟨by rw [unhide HD, Int.natCast_add]; rfl, B1⟩

end Go.Proofs.YtbdplgelkgngmaaGreatDoor

namespace Go.Proofs.YtbdplgelkgngmaaGreatDoor
open Go.RowKit
set_option linter.unusedVariables false

def stAtS (L : List St) (j : Nat) (h : j < L.length) : Bool := stmtS (decide (j + 1 = L.length)) L[j]

theorem stmtsS_iff : ∀ (L : List St), stmtsS L = true ↔ ∀ j, (h : j < L.length) → stAtS L j h = true
  | [] => by simp [stmtsS]
  | s :: r => by
    rw [stmtsS, Bool.and_eq_true, stmtsS_iff r]
    have e : r.isEmpty = decide (0 + 1 = (s :: r).length) := by cases r <;> simp
    constructor
    · rintro ⟨h1, h2⟩ j hj
      cases j with
      | zero => rw [e] at h1; exact h1
      | succ j =>
        have := h2 j (by simpa using hj)
        rw [stAtS] at this ⊢
        simp only [List.getElem_cons_succ, List.length_cons] at this ⊢
        rw [show decide (j + 1 + 1 = r.length + 1) = decide (j + 1 = r.length) by rw [decide_eq_decide]; omega]
        exact this
    · intro h
      refine ⟨by rw [e]; exact h 0 (by simp), fun j hj => ?_⟩
      have := h (j + 1) (by simpa using hj)
      rw [stAtS] at this ⊢
      simp only [List.getElem_cons_succ, List.length_cons] at this
      rw [show decide (j + 1 + 1 = r.length + 1) = decide (j + 1 = r.length) by rw [decide_eq_decide]; omega] at this
      exact this

theorem roots_succ (L : List St) (k : Nat) (h : k < L.length) : (L.take (k + 1)).flatMap rootsOf = (L.take k).flatMap rootsOf ++ rootsOf L[k] := by
  rw [List.take_succ_eq_append_getElem h, List.flatMap_append]
  simp

theorem roots_len : ∀ (L : List St), (L.flatMap rootsOf).length ≤ 2 * L.length
  | [] => by simp
  | s :: r => by
    have := roots_len r
    have h1 : (rootsOf s).length ≤ 2 := by unfold rootsOf; split <;> split <;> simp
    rw [List.flatMap_cons, List.length_append, List.length_cons]
    omega

/-- the order that the walks over these tops give -/
def ordF (K : List (List Int)) (n : Nat) (rs : List Int) : List Int := rs.foldl (fun o r => walkF K n r o) []

theorem ordF_append (K : List (List Int)) (n : Nat) (rs qs : List Int) : ordF K n (rs ++ qs) = qs.foldl (fun o r => walkF K n r o) (ordF K n rs) := by rw [ordF, List.foldl_append, ordF]

theorem ordF_len {K : List (List Int)} {n : Nat} (hK : K.length = n) (h3 : ∀ ks ∈ K, ks.length ≤ 3) : ∀ (rs O : List Int), (rs.foldl (fun o r => walkF K n r o) O).length ≤ max O.length (4 * n) + rs.length
  | [], O => by simp; omega
  | r :: rs, O => by
    rw [List.foldl_cons]
    have h1 := ordF_len hK h3 rs (walkF K n r O)
    have h2 := walkF_len h3 n r O
    rw [hK] at h2
    rw [List.length_cons]
    omega

theorem kids_three {N : List Nd} (h : N.all fieldsB = true) : ∀ ks ∈ N.map Nd.kids, ks.length ≤ 3 := by
  intro ks hk
  obtain ⟨x, hx, rfl⟩ := List.mem_map.1 hk
  have := List.all_eq_true.1 h x hx
  rw [fieldsB_wf, Bool.and_eq_true] at this
  have h1 := of_decide_eq_true this.1
  unfold kidN at h1
  split at h1
  · omega
  · split at h1
    · omega
    · split at h1
      · omega
      · split at h1 <;> omega

theorem Forest.kids {K : List (List Int)} {a b : Nat} {fs : List (Nat × Nat)} (h : Forest K a fs b) : ∀ j, a ≤ j → j < b → ∃ ks, K[j]? = some (topsI ks) ∧ ∀ p ∈ ks, p.1 < j := by
  induction h with
  | nil a => intro j h1 h2; omega
  | cons hk ht hf i1 i2 =>
    rename_i a t b ks fs
    intro j h1 h2
    rcases Nat.lt_trichotomy j t with e | e | e
    · exact i1 j h1 e
    · subst e; exact ⟨ks, ht, fun p hp => (hk.lt p hp).2⟩
    · exact i2 j (by omega) h2

/-- where the walks give all nodes in order, all kids stand ahead -/
theorem kids_ahead {N : List Nd} {n : Nat} {rs : List Int} (hn : N.length = n) (hl : (ordF (N.map Nd.kids) n rs).length = n) (hg : good (ordF (N.map Nd.kids) n rs)) :
    (∀ t, (h : t < N.length) → ∀ y ∈ N[t].kids, 0 ≤ y ∧ y < (t : Int)) ∧ ∀ r ∈ rs, 0 ≤ r ∧ r < (n : Int) := by
  obtain ⟨fs, e1, hf⟩ := roots_good (K := N.map Nd.kids) (n := n) rs [] hg
  have hf' : Forest (N.map Nd.kids) 0 fs n := by
    have : (rs.foldl (fun o k => walkF (N.map Nd.kids) n k o) []).length = n := hl
    rw [this] at hf
    exact hf
  constructor
  · intro t h y hy
    obtain ⟨ks, h1, h2⟩ := hf'.kids t (Nat.zero_le _) (by omega)
    rw [List.getElem?_map, List.getElem?_eq_getElem h] at h1
    have h3 : N[t].kids = topsI ks := by simpa using h1
    rw [h3] at hy
    obtain ⟨p, hp, rfl⟩ := List.mem_map.1 hy
    have := h2 p hp
    omega
  · intro r hr
    rw [← e1] at hr
    obtain ⟨p, hp, rfl⟩ := List.mem_map.1 hr
    have := hf'.lt p hp
    omega

end Go.Proofs.YtbdplgelkgngmaaGreatDoor

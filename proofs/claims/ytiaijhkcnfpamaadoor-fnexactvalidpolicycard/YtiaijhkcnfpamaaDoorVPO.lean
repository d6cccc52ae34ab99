/-
  The model's depth of a tree. Own work.
-/
import Derived.Test.YtiaijhkcnfpamaaDoorVPK
namespace Go.Proofs.YtiaijhkcnfpamaaDoor
open Go.RowKit
set_option linter.unusedVariables false

/-- the depths of the kids -/
def deepK (F : Int → Nat) (ks : List Int) : Nat := ks.foldl (fun d k => max d (F k)) 0

theorem deepK_snoc (F : Int → Nat) (ks : List Int) (k : Int) : deepK F (ks ++ [k]) = max (deepK F ks) (F k) := by
  rw [deepK, List.foldl_append]; rfl

theorem deepK_le {F : Int → Nat} {M : Nat} (h : ∀ k, F k ≤ M) : ∀ (ks : List Int) (d : Nat), d ≤ M → ks.foldl (fun d k => max d (F k)) d ≤ M
  | [], d, hd => hd
  | k :: ks, d, hd => by
    rw [List.foldl_cons]
    exact deepK_le h ks _ (by have := h k; omega)

theorem depthF_le (K : List (List Int)) : ∀ (n : Nat) (t : Int), depthF K n t ≤ n + 1
  | 0, t => by rw [depthF]; show 1 ≤ 0 + 1; omega
  | n + 1, t => by
    rw [depthF]
    dsimp only
    have := deepK_le (F := depthF K n) (M := n + 1) (depthF_le K n) (K.getD t.toNat []) 0 (by omega)
    omega

set_option maxRecDepth 100000 in
set_option maxHeartbeats 3200000 in
theorem l2depth_any (a : Option Addr) (n c : Nat) (N : List Nd) (w0 : World) (hN : Nds w0 a n c N) (hOK : ∀ t, (h : t < N.length) → ∀ y ∈ N[t].kids, 0 ≤ y ∧ y < (t : Int)) :
    ∀ (fuel t : Nat) (w : World), fuel ≤ 4001 → t < n → t < fuel → Below w0.heap.size w0 w →
    Calls Tryd.prog 23 #[.slice a n c, .int .i64 t] w fun e w' => e = .returned (.int .i64 (depthF (N.map Nd.kids) fuel (t : Int))) ∧ Below w.heap.size w w' := by
  have HL := hide hN.len
  have HOK := hide hOK
  clear hOK
  intro fuel
  induction fuel with
  | zero => intro t w _ _ h; omega
  | succ fuel ih =>
    intro t w hfl htn htf hb
    have htl : t < N.length := by rw [unhide HL]; exact htn
    have itn : (t : Int) < (n : Int) := by omega
    have hk := unhide HOK t htl
    have HW := hide (show depthF (N.map Nd.kids) (fuel + 1) (t : Int) = deepK (depthF (N.map Nd.kids) fuel) N[t].kids + 1 by
      rw [depthF]
      dsimp only
      rw [Int.toNat_natCast, List.getD_eq_getElem?_getD, List.getElem?_map, List.getElem?_eq_getElem htl]
      rfl)
    have HWL := hide (depthF_le (N.map Nd.kids) fuel)
    obtain ⟨b, off, rfl, hbl, an, nn, cn, ak, nk, ck, c0, c1, c2, c3, c4, hNm, hKd⟩ := hN.cells t htl
    have c4 := (hb.cell (p := ⟨b, off + t * 5 + 4, none⟩) hbl).trans c4
    rw [unhide HW]
    clear HW c0 c1 c2 c3
    generalize N[t] = x at c4 hNm hKd hk ⊢
    generalize depthF (N.map Nd.kids) fuel = F at ih HWL ⊢
    have HKL := hide hKd.len
    have hnk := hKd.small
    have Hk := hide hk
    clear hk
    go_enter Tryd.func23, Tryd.ntmps23
    go_wp2_with fail
    go_loopw [5, 15] (fun d i wr => ∃ j : Nat, j ≤ nk ∧ i = .int .i64 j ∧ d = .int .i64 (deepK F (x.kids.take j)) ∧ deepK F (x.kids.take j) ≤ 4001 ∧ Below w.heap.size w wr) (fun _ i _ => nk - (intOf i).toNat)
    case atStart => exact ⟨0, by omega, rfl, rfl, by simp [deepK], Below.refl _ _⟩
    case round =>
      obtain ⟨j, hj, rfl, rfl, hd, B1⟩ := hrel
      have E0 := hb.trans (B1.mono hb.size)
      by_cases hjl : j < nk
      · have ijl : (j : Int) < (nk : Int) := by omega
        have hjk : j < x.kids.length := by rw [unhide HKL]; exact hjl
        obtain ⟨bk, ok, rfl, hbk, ck0⟩ := (hKd.below E0 (Nat.le_refl _)).cells j hjk
        obtain ⟨hy0, hyt⟩ := unhide Hk x.kids[j] (List.getElem_mem hjk)
        have HS := hide (show deepK F (x.kids.take (j + 1)) = max (deepK F (x.kids.take j)) (F x.kids[j]) by rw [List.take_succ_eq_append_getElem hjk, deepK_snoc])
        have Hjl := hide hjl
        generalize x.kids[j] = y at ck0 hy0 hyt HS
        obtain ⟨s, rfl⟩ : ∃ s : Nat, y = (s : Int) := ⟨y.toNat, by omega⟩
        have hF := unhide HWL (s : Int)
        generalize deepK F (x.kids.take j) = D at hd HS
        by_cases hgt : D < F (s : Int)
        · have igt : (D : Int) < (F (s : Int) : Int) := by omega
          have HM := hide (show deepK F (x.kids.take (j + 1)) = F (s : Int) by rw [unhide HS]; omega)
          go_wp2_with (go_at_call 23; refine (ih s wr (by omega) (by omega) (by omega) E0).mono ?_; rintro e w2 ⟨rfl, hb2⟩)
          go_roundw
          case rel => exact ⟨j + 1, unhide Hjl, by go_num, by rw [unhide HM], by rw [unhide HM]; omega, B1.trans (hb2.mono B1.size)⟩
          case measure => have := unhide Hjl; simp [intOf]; omega
        · have igt : ¬ ((D : Int) < (F (s : Int) : Int)) := by omega
          have HM := hide (show deepK F (x.kids.take (j + 1)) = D by rw [unhide HS]; omega)
          go_wp2_with (go_at_call 23; refine (ih s wr (by omega) (by omega) (by omega) E0).mono ?_; rintro e w2 ⟨rfl, hb2⟩)
          go_roundw
          case rel => exact ⟨j + 1, unhide Hjl, by go_num, by rw [unhide HM], by rw [unhide HM]; omega, B1.trans (hb2.mono B1.size)⟩
          case measure => have := unhide Hjl; simp [intOf]; omega
      · have e : j = nk := by omega
        subst e
        have HT := hide (show x.kids.take j = x.kids from List.take_of_length_le (by rw [unhide HKL]; exact Nat.le_refl _))
        rw [unhide HT] at hd ⊢
        generalize hD : deepK F x.kids = D at hd ⊢
        have HD := hide hD
        clear hD
        go_wp2_with fail
        go_ret
        exact ⟨by rw [unhide HD, Int.natCast_add]; rfl, B1⟩

end Go.Proofs.YtiaijhkcnfpamaaDoor

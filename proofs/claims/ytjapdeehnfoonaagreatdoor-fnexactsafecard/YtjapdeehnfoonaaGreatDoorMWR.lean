/-
  VPO, VPT, JB. Own work.
-/
import Derived.Test.YtjapdeehnfoonaaGreatDoorMWI
import Derived.Test.YtjapdeehnfoonaaGreatDoorMWL
namespace Go.Proofs.YtjapdeehnfoonaaGreatDoor
open Go.RowKit
set_option linter.unusedVariables false

/-- the depths of the kids -/
def deepK (F : Int → Nat) (ks : List Int) : Nat := ks.foldl (fun d k => max d (F k)) 0

theorem deepK_snoc (F : Int → Nat) (ks : List Int) (k : Int) : deepK F (ks ++ [k]) = max (deepK F ks) (F k) := by
  rw [deepK, List.foldl_append]; rfl

theorem deepK_le {F : Int → Nat} {M : Nat} (h : ∀ k, F k ≤ M) : ∀ (ks : List Int) (d : Nat), d ≤ M → ks.foldl (fun d k => max d (F k)) d ≤ M
  | [], d, hd => hd
  | k :: ks, d, hd => by
    rw [List.foldl_cons]
    exact deepK_le h ks _ (by have := h k; omega)

theorem depthF_le (K : List (List Int)) : ∀ (n : Nat) (t : Int), depthF K n t ≤ n + 1
  | 0, t => by rw [depthF]; show 1 ≤ 0 + 1; omega
  | n + 1, t => by
    rw [depthF]
    dsimp only
    have := deepK_le (F := depthF K n) (M := n + 1) (depthF_le K n) (K.getD t.toNat []) 0 (by omega)
    omega

set_option maxRecDepth 100000 in
set_option maxHeartbeats 3200000 in
theorem l2depth_any (a : Option Addr) (n c : Nat) (N : List Nd) (w0 : World) (hN : Nds w0 a n c N) (hOK : ∀ t, (h : t < N.length) → ∀ y ∈ N[t].kids, 0 ≤ y ∧ y < (t : Int)) :
    ∀ (fuel t : Nat) (w : World), fuel ≤ 4001 → t < n → t < fuel → Below w0.heap.size w0 w →
    Calls Tryz.prog 45 #[.slice a n c, .int .i64 t] w fun e w' => e = .returned (.int .i64 (depthF (N.map Nd.kids) fuel (t : Int))) ∧ Below w.heap.size w w' := by
  have HL := hide hN.len
  have HOK := hide hOK
  clear hOK
  intro fuel
  induction fuel with
  | zero => intro t w _ _ h; omega
  | succ fuel ih =>
    intro t w hfl htn htf hb
    have htl : t < N.length := by rw [unhide HL]; exact htn
    have itn : (t : Int) < (n : Int) := by omega
    have hk := unhide HOK t htl
    have HW := hide (show depthF (N.map Nd.kids) (fuel + 1) (t : Int) = deepK (depthF (N.map Nd.kids) fuel) N[t].kids + 1 by
      rw [depthF]
      dsimp only
      rw [Int.toNat_natCast, List.getD_eq_getElem?_getD, List.getElem?_map, List.getElem?_eq_getElem htl]
      rfl)
    have HWL := hide (depthF_le (N.map Nd.kids) fuel)
    obtain ⟨b, off, rfl, hbl, an, nn, cn, ak, nk, ck, c0, c1, c2, c3, c4, hNm, hKd⟩ := hN.cells t htl
    have c4 := (hb.cell (p := ⟨b, off + t * 5 + 4, none⟩) hbl).trans c4
    rw [unhide HW]
    clear HW c0 c1 c2 c3
    generalize N[t] = x at c4 hNm hKd hk ⊢
    generalize depthF (N.map Nd.kids) fuel = F at ih HWL ⊢
    have HKL := hide hKd.len
    have hnk := hKd.small
    have Hk := hide hk
    clear hk
    go_enter Tryz.func45, Tryz.ntmps45
    go_wp2_with fail
    go_loopw [5, 15] (fun d i wr => ∃ j : Nat, j ≤ nk ∧ i = .int .i64 j ∧ d = .int .i64 (deepK F (x.kids.take j)) ∧ deepK F (x.kids.take j) ≤ 4001 ∧ Below w.heap.size w wr) (fun _ i _ => nk - (intOf i).toNat)
    case atStart => exact ⟨0, by omega, rfl, rfl, by simp [deepK], Below.refl _ _⟩
    case round =>
      obtain ⟨j, hj, rfl, rfl, hd, B1⟩ := hrel
      have E0 := hb.trans (B1.mono hb.size)
      by_cases hjl : j < nk
      · have ijl : (j : Int) < (nk : Int) := by omega
        have hjk : j < x.kids.length := by rw [unhide HKL]; exact hjl
        obtain ⟨bk, ok, rfl, hbk, ck0⟩ := (hKd.below E0 (Nat.le_refl _)).cells j hjk
        obtain ⟨hy0, hyt⟩ := unhide Hk x.kids[j] (List.getElem_mem hjk)
        have HS := hide (show deepK F (x.kids.take (j + 1)) = max (deepK F (x.kids.take j)) (F x.kids[j]) by rw [List.take_succ_eq_append_getElem hjk, deepK_snoc])
        have Hjl := hide hjl
        generalize x.kids[j] = y at ck0 hy0 hyt HS
        obtain ⟨s, rfl⟩ : ∃ s : Nat, y = (s : Int) := ⟨y.toNat, by omega⟩
        have hF := unhide HWL (s : Int)
        generalize deepK F (x.kids.take j) = D at hd HS
        by_cases hgt : D < F (s : Int)
        · have igt : (D : Int) < (F (s : Int) : Int) := by omega
          have HM := hide (show deepK F (x.kids.take (j + 1)) = F (s : Int) by rw [unhide HS]; omega)
          go_wp2_with (go_at_call 45; refine (ih s wr (by omega) (by omega) (by omega) E0).mono ?_; rintro e w2 ⟨rfl, hb2⟩)
          go_roundw
          case rel => exact ⟨j + 1, unhide Hjl, by go_num, by rw [unhide HM], by rw [unhide HM]; omega, B1.trans (hb2.mono B1.size)⟩
          case measure => have := unhide Hjl; simp [intOf]; omega
        · have igt : ¬ ((D : Int) < (F (s : Int) : Int)) := by omega
          have HM := hide (show deepK F (x.kids.take (j + 1)) = D by rw [unhide HS]; omega)
          go_wp2_with (go_at_call 45; refine (ih s wr (by omega) (by omega) (by omega) E0).mono ?_; rintro e w2 ⟨rfl, hb2⟩)
          go_roundw
          case rel => exact ⟨j + 1, unhide Hjl, by go_num, by rw [unhide HM], by rw [unhide HM]; omega, B1.trans (hb2.mono B1.size)⟩
          case measure => have := unhide Hjl; simp [intOf]; omega
      · have e : j = nk := by omega
        subst e
        have HT := hide (show x.kids.take j = x.kids from List.take_of_length_le (by rw [unhide HKL]; exact Nat.le_refl _))
        rw [unhide HT] at hd ⊢
        generalize hD : deepK F x.kids = D at hd ⊢
        have HD := hide hD
        clear hD
        go_wp2_with fail
        go_ret
        exact ⟨by rw [unhide HD, Int.natCast_add]; rfl, B1⟩

end Go.Proofs.YtjapdeehnfoonaaGreatDoor

namespace Go.Proofs.YtjapdeehnfoonaaGreatDoor
open Go.RowKit
set_option linter.unusedVariables false

def stAtS (L : List St) (j : Nat) (h : j < L.length) : Bool := stmtS (decide (j + 1 = L.length)) L[j]

theorem stmtsS_iff : ∀ (L : List St), stmtsS L = true ↔ ∀ j, (h : j < L.length) → stAtS L j h = true
  | [] => by simp [stmtsS]
  | s :: r => by
    rw [stmtsS, Bool.and_eq_true, stmtsS_iff r]
    have e : r.isEmpty = decide (0 + 1 = (s :: r).length) := by cases r <;> simp
    constructor
    · rintro ⟨h1, h2⟩ j hj
      cases j with
      | zero => rw [e] at h1; exact h1
      | succ j =>
        have := h2 j (by simpa using hj)
        rw [stAtS] at this ⊢
        simp only [List.getElem_cons_succ, List.length_cons] at this ⊢
        rw [show decide (j + 1 + 1 = r.length + 1) = decide (j + 1 = r.length) by rw [decide_eq_decide]; omega]
        exact this
    · intro h
      refine ⟨by rw [e]; exact h 0 (by simp), fun j hj => ?_⟩
      have := h (j + 1) (by simpa using hj)
      rw [stAtS] at this ⊢
      simp only [List.getElem_cons_succ, List.length_cons] at this
      rw [show decide (j + 1 + 1 = r.length + 1) = decide (j + 1 = r.length) by rw [decide_eq_decide]; omega] at this
      exact this

theorem roots_succ (L : List St) (k : Nat) (h : k < L.length) : (L.take (k + 1)).flatMap rootsOf = (L.take k).flatMap rootsOf ++ rootsOf L[k] := by
  rw [List.take_succ_eq_append_getElem h, List.flatMap_append]
  simp

theorem roots_len : ∀ (L : List St), (L.flatMap rootsOf).length ≤ 2 * L.length
  | [] => by simp
  | s :: r => by
    have := roots_len r
    have h1 : (rootsOf s).length ≤ 2 := by unfold rootsOf; split <;> split <;> simp
    rw [List.flatMap_cons, List.length_append, List.length_cons]
    omega

/-- the order that the walks over these tops give -/
def ordF (K : List (List Int)) (n : Nat) (rs : List Int) : List Int := rs.foldl (fun o r => walkF K n r o) []

theorem ordF_append (K : List (List Int)) (n : Nat) (rs qs : List Int) : ordF K n (rs ++ qs) = qs.foldl (fun o r => walkF K n r o) (ordF K n rs) := by rw [ordF, List.foldl_append, ordF]

theorem ordF_len {K : List (List Int)} {n : Nat} (hK : K.length = n) (h3 : ∀ ks ∈ K, ks.length ≤ 3) : ∀ (rs O : List Int), (rs.foldl (fun o r => walkF K n r o) O).length ≤ max O.length (4 * n) + rs.length
  | [], O => by simp; omega
  | r :: rs, O => by
    rw [List.foldl_cons]
    have h1 := ordF_len hK h3 rs (walkF K n r O)
    have h2 := walkF_len h3 n r O
    rw [hK] at h2
    rw [List.length_cons]
    omega

theorem kids_three {N : List Nd} (h : N.all fieldsB = true) : ∀ ks ∈ N.map Nd.kids, ks.length ≤ 3 := by
  intro ks hk
  obtain ⟨x, hx, rfl⟩ := List.mem_map.1 hk
  have := List.all_eq_true.1 h x hx
  rw [fieldsB_wf, Bool.and_eq_true] at this
  have h1 := of_decide_eq_true this.1
  unfold kidN at h1
  split at h1
  · omega
  · split at h1
    · omega
    · split at h1
      · omega
      · split at h1 <;> omega

theorem Forest.kids {K : List (List Int)} {a b : Nat} {fs : List (Nat × Nat)} (h : Forest K a fs b) : ∀ j, a ≤ j → j < b → ∃ ks, K[j]? = some (topsI ks) ∧ ∀ p ∈ ks, p.1 < j := by
  induction h with
  | nil a => intro j h1 h2; omega
  | cons hk ht hf i1 i2 =>
    rename_i a t b ks fs
    intro j h1 h2
    rcases Nat.lt_trichotomy j t with e | e | e
    · exact i1 j h1 e
    · subst e; exact ⟨ks, ht, fun p hp => (hk.lt p hp).2⟩
    · exact i2 j (by omega) h2

/-- where the walks give all nodes in order, all kids stand ahead -/
theorem kids_ahead {N : List Nd} {n : Nat} {rs : List Int} (hn : N.length = n) (hl : (ordF (N.map Nd.kids) n rs).length = n) (hg : good (ordF (N.map Nd.kids) n rs)) :
    (∀ t, (h : t < N.length) → ∀ y ∈ N[t].kids, 0 ≤ y ∧ y < (t : Int)) ∧ ∀ r ∈ rs, 0 ≤ r ∧ r < (n : Int) := by
  obtain ⟨fs, e1, hf⟩ := roots_good (K := N.map Nd.kids) (n := n) rs [] hg
  have hf' : Forest (N.map Nd.kids) 0 fs n := by
    have : (rs.foldl (fun o k => walkF (N.map Nd.kids) n k o) []).length = n := hl
    rw [this] at hf
    exact hf
  constructor
  · intro t h y hy
    obtain ⟨ks, h1, h2⟩ := hf'.kids t (Nat.zero_le _) (by omega)
    rw [List.getElem?_map, List.getElem?_eq_getElem h] at h1
    have h3 : N[t].kids = topsI ks := by simpa using h1
    rw [h3] at hy
    obtain ⟨p, hp, rfl⟩ := List.mem_map.1 hy
    have := h2 p hp
    omega
  · intro r hr
    rw [← e1] at hr
    obtain ⟨p, hp, rfl⟩ := List.mem_map.1 hr
    have := hf'.lt p hp
    omega

end Go.Proofs.YtjapdeehnfoonaaGreatDoor

namespace Go.Proofs.YtjapdeehnfoonaaGreatDoor
open Go.RowKit
set_option linter.unusedVariables false

set_option maxRecDepth 100000 in
set_option maxHeartbeats 3200000 in
theorem l2fieldsU_any (x : Nd) (an : Option Addr) (nn cn : Nat) (ak : Option Addr) (nk ck : Nat) (w : World) (hN : Strs w an nn cn x.names) (hK : nk = x.kids.length) (hs : x.text.size ≤ 1048576) (hk : nk ≤ 1048576) :
    Calls Tryz.prog 42 #[ndV x.op x.num x.text an nn cn ak nk ck, .bool true] w fun e w' => e = .returned (.bool (fieldsU x)) ∧ Below w.heap.size w w' := by
  have hn := hN.len
  obtain ⟨op, num, text, names, kids⟩ := x
  simp only at hN hK hs hn ⊢
  have R0 := Row.new w #[.int .i64 op, .int .i64 num, .string text, .slice an nn cn, .slice ak nk ck] 69
  have B0 := (Below.refl w.heap.size w).alloc (Nat.le_refl _) (.cells #[.int .i64 op, .int .i64 num, .string text, .slice an nn cn, .slice ak nk ck] 69)
  have z0 : (w.alloc (.cells #[.int .i64 op, .int .i64 num, .string text, .slice an nn cn, .slice ak nk ck] 69)).heap.size = w.heap.size + 1 := by simp
  have Hn := hide hn
  have HK := hide hK
  clear hn hK
  have HF := hide (show fieldsU ⟨op, num, text, names, kids⟩ = (decide ((kids.length : Int) = kidN op) && (if op = 1 then decide (text.size = 0) && decide (names.length = 0) else if op = 2 then quotedB text && decide (num = 0) && decide (names.length = 0) else if op = 3 then decide (num = 0 ∨ num = 1) && decide (text.size = 0) && decide (names.length = 0) else if op = 4 then setB names && decide (num = 0) && decide (text.size = 0) else if op = 5 then false else if op = 6 then decide (0 ≤ num ∧ num ≤ 5) && decide (text.size = 0) && decide (names.length = 0) else if op = 7 then decide (0 ≤ num ∧ num < 600) && decide (text.size = 0) && decide (names.length = 0) else decide (num = 0) && decide (text.size = 0) && decide (names.length = 0))) from rfl)
  rw [← unhide HK, ← unhide Hn] at HF
  generalize fieldsU ⟨op, num, text, names, kids⟩ = FB at HF ⊢
  unfold ndV
  go_enter Tryz.func42, Tryz.ntmps42
  go_wp2_with fail
  obtain ⟨c0, c1, c2, c3, c4, cf⟩ := row5 R0
  generalize w.alloc (.cells #[.int .i64 op, .int .i64 num, .string text, .slice an nn cn, .slice ak nk ck] 69) = W at *
  by_cases hkn : (nk : Int) = kidN op
  case neg =>
    have ek : ((nk : Int) != kidN op) = true := bne_iff_ne.2 hkn
    go_region_held3 (fun w' => w'.cell? ⟨w.heap.size, 4, none⟩ = some (.slice ak nk ck) ∧ w'.cell? ⟨w.heap.size, 0, none⟩ = some (.int .i64 op)) (go_keep)
      ((go_at_call 58; refine (l2kids_any _ _).mono ?_; rintro e w1 ⟨rfl, hw1⟩; rw [hw1]; clear hw1))
    all_goals
      go_wp2
      go_ret
      exact ⟨ret_bool (by rw [unhide HF, decide_eq_false hkn]; rfl), B0.drew⟩
  have ek : ((nk : Int) != kidN op) = false := by rw [hkn]; simp
  have Hkn := hide hkn
  clear hkn
  go_region_held3 (fun w' => w'.cell? ⟨w.heap.size, 4, none⟩ = some (.slice ak nk ck) ∧ w'.cell? ⟨w.heap.size, 0, none⟩ = some (.int .i64 op)) (go_keep)
    ((go_at_call 58; refine (l2kids_any _ _).mono ?_; rintro e w1 ⟨rfl, hw1⟩; rw [hw1]; clear hw1))
  have R1 : Row W.drew w.heap.size #[.int .i64 op, .int .i64 num, .string text, .slice an nn cn, .slice ak nk ck] 69 := ⟨R0.out⟩
  have B1 : Below w.heap.size w W.drew := B0.drew
  have N1 : Strs W.drew an nn cn names := (hN.below B0 (Nat.le_refl _)).drew'
  have z1 : W.drew.heap.size = w.heap.size + 1 := z0
  clear R0 B0 c0 c1 c2 c3 c4 cf hN z0
  generalize W.drew = W1 at R1 B1 N1 z1 ⊢
  have R2 := R1.alloc (.cells #[.int .i64 op, .int .i64 0, .string ⟨#[]⟩, .slice none 0 0, .slice none 0 0] 69)
  have B2 := B1.alloc (by omega) (.cells #[.int .i64 op, .int .i64 0, .string ⟨#[]⟩, .slice none 0 0, .slice none 0 0] 69)
  have N2 := N1.below ((Below.refl W1.heap.size W1).alloc (Nat.le_refl _) (.cells #[.int .i64 op, .int .i64 0, .string ⟨#[]⟩, .slice none 0 0, .slice none 0 0] 69)) (Nat.le_refl _)
  have Q2 := Row.new W1 #[.int .i64 op, .int .i64 0, .string ⟨#[]⟩, .slice none 0 0, .slice none 0 0] 69
  rw [z1] at Q2
  have z2 : (W1.alloc (.cells #[.int .i64 op, .int .i64 0, .string ⟨#[]⟩, .slice none 0 0, .slice none 0 0] 69)).heap.size = w.heap.size + 2 := by simp [z1]
  obtain ⟨c0, c1, c2, c3, c4, cf⟩ := row5 R1
  have tl := tl_nil text
  by_cases o1 : op = 1
  · subst o1
    have HF := hide ((unhide HF).trans (by rw [decide_eq_true (unhide Hkn), if_pos rfl, Bool.true_and]))
    go_wp2
    all_goals
      go_ret
      refine ⟨ret_bool ?_, B1.alloc (by omega) _⟩
      rw [unhide HF]
      have nb : ((nn : Int) == 0) = decide (nn = 0) := by rw [Bool.eq_iff_iff]; simp
      clear HF R1 R2 Q2 B1 B2 N1 N2 c0 c1 c2 c3 c4 cf
      simp_all
      try omega
  by_cases o2 : op = 2
  · subst o2
    have HF := hide ((unhide HF).trans (by rw [decide_eq_true (unhide Hkn), if_neg (by omega), if_pos rfl, Bool.true_and]))
    cases hq : quotedB text
    · have Hq := hide hq
      clear hq
      go_wp2_with (go_at_call 59; refine (l2quoted_any _ _ hs).mono ?_; rintro e w' ⟨rfl, hw⟩; rw [unhide Hq, hw]; clear hw)
      all_goals
        go_ret
        refine ⟨ret_bool ?_, B1.alloc (by omega) _⟩
        rw [unhide HF]
        have hq := unhide Hq
        have nb : ((nn : Int) == 0) = decide (nn = 0) := by rw [Bool.eq_iff_iff]; simp
        clear HF R1 R2 Q2 B1 B2 N1 N2 c0 c1 c2 c3 c4 cf
        simp_all
        try omega
    · have Hq := hide hq
      clear hq
      go_wp2_with (go_at_call 59; refine (l2quoted_any _ _ hs).mono ?_; rintro e w' ⟨rfl, hw⟩; rw [unhide Hq, hw]; clear hw)
      all_goals
        go_ret
        refine ⟨ret_bool ?_, B1.alloc (by omega) _⟩
        rw [unhide HF]
        have hq := unhide Hq
        have nb : ((nn : Int) == 0) = decide (nn = 0) := by rw [Bool.eq_iff_iff]; simp
        clear HF R1 R2 Q2 B1 B2 N1 N2 c0 c1 c2 c3 c4 cf
        simp_all
        try omega
  by_cases o3 : op = 3
  · subst o3
    have HF := hide ((unhide HF).trans (by rw [decide_eq_true (unhide Hkn), if_neg (by omega), if_neg (by omega), if_pos rfl, Bool.true_and]))
    go_wp2
    all_goals
      go_ret
      refine ⟨ret_bool ?_, B1.alloc (by omega) _⟩
      rw [unhide HF]
      have nb : ((nn : Int) == 0) = decide (nn = 0) := by rw [Bool.eq_iff_iff]; simp
      clear HF R1 R2 Q2 B1 B2 N1 N2 c0 c1 c2 c3 c4 cf
      simp_all
      try omega
  by_cases o4 : op = 4
  · subst o4
    have HF := hide ((unhide HF).trans (by rw [decide_eq_true (unhide Hkn), if_neg (by omega), if_neg (by omega), if_neg (by omega), if_pos rfl, Bool.true_and]))
    cases hq : setB names
    · have Hq := hide hq
      clear hq
      go_wp2_with (go_at_call 60; refine (sIsSet_any _ _ _ _ _ N2).mono ?_; rintro e w' ⟨rfl, hw⟩; rw [unhide Hq, hw]; clear hw)
      all_goals
        go_ret
        refine ⟨ret_bool ?_, B1.alloc (by omega) _⟩
        rw [unhide HF]
        have hq := unhide Hq
        have nb : ((nn : Int) == 0) = decide (nn = 0) := by rw [Bool.eq_iff_iff]; simp
        clear HF R1 R2 Q2 B1 B2 N1 N2 c0 c1 c2 c3 c4 cf
        simp_all
        try omega
    · have Hq := hide hq
      clear hq
      go_wp2_with (go_at_call 60; refine (sIsSet_any _ _ _ _ _ N2).mono ?_; rintro e w' ⟨rfl, hw⟩; rw [unhide Hq, hw]; clear hw)
      all_goals
        go_ret
        refine ⟨ret_bool ?_, B1.alloc (by omega) _⟩
        rw [unhide HF]
        have hq := unhide Hq
        have nb : ((nn : Int) == 0) = decide (nn = 0) := by rw [Bool.eq_iff_iff]; simp
        clear HF R1 R2 Q2 B1 B2 N1 N2 c0 c1 c2 c3 c4 cf
        simp_all
        try omega
  by_cases o5 : op = 5
  · subst o5
    have HF := hide ((unhide HF).trans (by rw [decide_eq_true (unhide Hkn), if_neg (by omega), if_neg (by omega), if_neg (by omega), if_neg (by omega), if_pos rfl, Bool.true_and]))
    go_wp2
    all_goals
      go_ret
      refine ⟨ret_bool ?_, B1.alloc (by omega) _⟩
      rw [unhide HF]
      simp
  by_cases o6 : op = 6
  · subst o6
    have HF := hide ((unhide HF).trans (by rw [decide_eq_true (unhide Hkn), if_neg (by omega), if_neg (by omega), if_neg (by omega), if_neg (by omega), if_neg (by omega), if_pos rfl, Bool.true_and]))
    go_wp2
    all_goals
      go_ret
      refine ⟨ret_bool ?_, B1.alloc (by omega) _⟩
      rw [unhide HF]
      have nb : ((nn : Int) == 0) = decide (nn = 0) := by rw [Bool.eq_iff_iff]; simp
      clear HF R1 R2 Q2 B1 B2 N1 N2 c0 c1 c2 c3 c4 cf
      simp_all
      try omega
  by_cases o7 : op = 7
  · subst o7
    have HF := hide ((unhide HF).trans (by rw [decide_eq_true (unhide Hkn), if_neg (by omega), if_neg (by omega), if_neg (by omega), if_neg (by omega), if_neg (by omega), if_neg (by omega), if_pos rfl, Bool.true_and]))
    go_wp2
    all_goals
      go_ret
      refine ⟨ret_bool ?_, B1.alloc (by omega) _⟩
      rw [unhide HF]
      have nb : ((nn : Int) == 0) = decide (nn = 0) := by rw [Bool.eq_iff_iff]; simp
      clear HF R1 R2 Q2 B1 B2 N1 N2 c0 c1 c2 c3 c4 cf
      simp_all
      try omega
  have HF := hide ((unhide HF).trans (by rw [decide_eq_true (unhide Hkn), if_neg o1, if_neg o2, if_neg o3, if_neg o4, if_neg o5, if_neg o6, if_neg o7, Bool.true_and]))
  have p1 := beq_eq_false_iff_ne.2 o1
  have p2 := beq_eq_false_iff_ne.2 o2
  have p3 := beq_eq_false_iff_ne.2 o3
  have p4 := beq_eq_false_iff_ne.2 o4
  have p5 := beq_eq_false_iff_ne.2 o5
  have p6 := beq_eq_false_iff_ne.2 o6
  have p7 := beq_eq_false_iff_ne.2 o7
  go_wp2
  all_goals
    go_ret
    refine ⟨ret_bool ?_, B1.alloc (by omega) _⟩
    rw [unhide HF]
    have nb : ((nn : Int) == 0) = decide (nn = 0) := by rw [Bool.eq_iff_iff]; simp
    clear HF R1 R2 Q2 B1 B2 N1 N2 c0 c1 c2 c3 c4 cf
    simp_all
    try omega

end Go.Proofs.YtjapdeehnfoonaaGreatDoor

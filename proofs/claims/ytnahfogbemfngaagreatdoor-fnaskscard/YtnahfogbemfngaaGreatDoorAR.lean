/-
  An ask that is written is read back. Own work.
-/
import Derived.Test.YtnahfogbemfngaaGreatDoorAQ
import Derived.Test.YtnahfogbemfngaaGreatDoorFB
namespace Go.Proofs.YtnahfogbemfngaaGreatDoor
open Go.RowKit
set_option linter.unusedVariables false

theorem vn_no {s : ByteArray} (h : vnB s = true) (c : UInt8) (hc : nmI (c.toNat : Int) = false) : c ∉ toL s := fun hm => by
  rw [vnB, Bool.and_eq_true] at h
  have h2 := h.2
  rw [allNm, List.all_eq_true] at h2
  have := h2 c hm
  rw [hc] at this; cases this

theorem ask_full {cl us : ByteArray} {lv : Int} {ss : List ByteArray} (h : askB cl us lv ss = true) : vnB cl = true ∧ vnB us = true ∧ 0 ≤ lv ∧ lv ≤ 9999999 ∧ setB ss = true := by
  simp only [askB, Bool.and_eq_true, decide_eq_true_eq] at h
  exact ⟨h.1.1.1.1, h.1.1.1.2, h.1.1.2, h.1.2, h.2⟩

def jn (ss : List ByteArray) : List UInt8 := Lib.join (ss.map toL) [44]

theorem fmt_toL (cl us : ByteArray) (lv : Int) (ss : List ByteArray) : toL (fmtX cl us lv ss) = lbC ++ (toL cl ++ 32 :: (lbU ++ (toL us ++ 32 :: (lbL ++ (Lib.decDigits lv.toNat ++ 32 :: (lbA ++ jn ss)))))) := by
  unfold fmtX toL
  simp only [ByteArray.data_append, Array.toList_append, decB, joinB, jn, lbC, lbU, lbL, lbA, List.append_assoc, List.cons_append, List.nil_append]
  rfl

theorem toL_map_ofL (ss : List ByteArray) : (ss.map toL).map ofL = ss := by
  rw [List.map_map]
  conv => rhs; rw [← List.map_id ss]
  exact List.map_congr_left fun x _ => ofL_toL x

theorem jn_nil : jn [] = [] := rfl

theorem ls_of_set {ss : List ByteArray} (h : setB ss = true) : LsOK (jn ss) ss := by
  simp only [setB, Bool.and_eq_true, decide_eq_true_eq] at h
  obtain ⟨h1, h2, h3⟩ := h
  by_cases he : ss = []
  · subst he; exact .inl ⟨rfl, rfl⟩
  · have hm : ss.map toL ≠ [] := by simpa using he
    have hs : splitC 44 (jn ss) = ss.map toL := split_join _ hm (fun p hp => by
      obtain ⟨s, hs, rfl⟩ := List.mem_map.1 hp
      exact vn_no (allB_mem h2 hs) 44 (by decide))
    refine .inr ⟨fun e => ?_, ?_⟩
    · rw [e] at hs
      obtain ⟨s, r, rfl⟩ := List.exists_cons_of_ne_nil he
      have h0 : [] = toL s := by
        simp only [splitC, List.map_cons, List.cons.injEq] at hs
        exact hs.1
      have := allB_mem h2 (by simp : s ∈ s :: r)
      rw [vnB, Bool.and_eq_true, decide_eq_true_eq] at this
      have hz : s.size = 0 := by rw [← toL_size s, ← h0]; rfl
      omega
    · rw [hs, toL_map_ofL]
      exact IsMake.of_good (by omega) h2 ⟨h3, fun x => Iff.rfl⟩ h1

theorem ask_read {cl us : ByteArray} {lv : Int} {ss : List ByteArray} (h : askB cl us lv ss = true) (hz : (fmtX cl us lv ss).size ≤ 4000) : AskOf (toL (fmtX cl us lv ss)) cl us lv ss := by
  obtain ⟨v1, v2, l0, l1, hs⟩ := ask_full h
  obtain ⟨f1, f2, _, _, _⟩ := dec_facts lv.toNat
  refine ⟨Lib.decDigits lv.toNat, jn ss, ⟨fmt_toL cl us lv ss, vn_no v1 32 (by decide), vn_no v2 32 (by decide), fun hm => ?_⟩, by rw [toL_size]; exact hz, v1, v2, lvOK_dec (by omega), by rw [f1]; omega, ls_of_set hs⟩
  rw [List.all_eq_true] at f2
  have := f2 32 hm
  revert this
  decide

theorem nodup_toL {K : List ByteArray} (h : K.Nodup) : (K.map toL).Nodup := by
  rw [List.nodup_iff_pairwise_ne] at h ⊢
  rw [List.pairwise_map]
  exact h.imp fun hne e => hne (toL_inj e)

theorem jn_le {ls : List UInt8} {K : List ByteArray} (h : LsOK ls K) : (jn K).length ≤ ls.length := by
  rcases h with ⟨rfl, rfl⟩ | ⟨_, h⟩
  · exact Nat.le_refl _
  · by_cases he : K = []
    · subst he; rw [jn_nil]; exact Nat.zero_le _
    · rcases h.cases with ⟨rfl, _⟩ | ⟨_, _, _, hs⟩
      · exact absurd rfl he
      · have h1 := join_tot (K.map toL) (by simpa using he)
        have h2 := nodup_tot (K.map toL) (splitC 44 ls) (nodup_toL (rise_nodup hs.rise)) (fun x hx => by
          obtain ⟨s, hk, rfl⟩ := List.mem_map.1 hx
          obtain ⟨p, hp, e⟩ := List.mem_map.1 ((hs.mem s).1 hk)
          rw [← e, toL_ofL]; exact hp)
        rw [split_tot] at h2
        show (Lib.join (K.map toL) [44]).length ≤ _
        omega

theorem set_of_ls {ls : List UInt8} {K : List ByteArray} (h : LsOK ls K) : setB K = true := by
  rcases h with ⟨rfl, rfl⟩ | ⟨_, h⟩
  · rfl
  · rcases h.cases with ⟨_, h1, _⟩ | ⟨_, hl, ha, hs⟩
    · omega
    · simp only [setB, Bool.and_eq_true, decide_eq_true_eq]
      refine ⟨hl, ?_, hs.rise⟩
      rw [allB, List.all_eq_true]
      exact fun x hx => allB_mem ha ((hs.mem x).1 hx)

theorem ask_back {t : List UInt8} {cl us : ByteArray} {lv : Int} {K : List ByteArray} (h : AskOf t cl us lv K) : askB cl us lv K = true ∧ (fmtX cl us lv K).size ≤ 4000 := by
  obtain ⟨d, ls, hp, ht, v1, v2, hd, rfl, hl⟩ := h
  obtain ⟨r1, r2⟩ := lv_range hd
  refine ⟨?_, ?_⟩
  · simp only [askB, Bool.and_eq_true, decide_eq_true_eq]
    exact ⟨⟨⟨⟨v1, v2⟩, r1⟩, r2⟩, set_of_ls hl⟩
  · have e1 := congrArg List.length (fmt_toL cl us (lvV d) K)
    have e2 := congrArg List.length hp.eq
    have e3 := jn_le hl
    rw [dec_back hd] at e1
    rw [toL_size] at e1
    simp only [List.length_append, List.length_cons] at e1 e2
    omega

theorem fmt_ne (cl us : ByteArray) (lv : Int) (ss : List ByteArray) : (fmtX cl us lv ss).size ≠ 0 := by
  have e1 := congrArg List.length (fmt_toL cl us lv ss)
  rw [toL_size] at e1
  simp only [List.length_append, List.length_cons] at e1
  omega

end Go.Proofs.YtnahfogbemfngaaGreatDoor

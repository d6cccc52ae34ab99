/-
  VPA, VPB, VPC, VPE, VPF, VPG. Own work.
-/
import Derived.Test.YtddpcehgopeklaaGreatDoorMXAB
import Derived.Test.YtddpcehgopeklaaGreatDoorMXAK
import Derived.Test.YtddpcehgopeklaaGreatDoorMXAM
import Derived.Deep.RegionHeld3
import Derived.Test.YtddpcehgopeklaaGreatDoorMXAG
namespace Go.Proofs.YtddpcehgopeklaaGreatDoor
open Go.RowKit
set_option linter.unusedVariables false

theorem runL_full (p : UInt8 → Bool) (r : List UInt8) : runL p r = r.length ↔ r.all p = true := by
  constructor
  · intro h
    have := runL_all p r
    rwa [h, List.take_length] at this
  · intro h
    have e : r.takeWhile p = r := by
      induction r with
      | nil => rfl
      | cons c r ih =>
        rw [List.all_cons, Bool.and_eq_true] at h
        rw [List.takeWhile_cons, if_pos h.1, ih h.2]
    rw [runL, e]

theorem identB_eq {s : ByteArray} (h0 : 0 < s.size) : identB s = (decide (s.size ≤ 32) && ltI (s[0].toNat : Int) && decide (runL wdB (toL s) = s.size) && !isWd (toL s)) := by
  have h := drop_cons s 0 h0
  rw [List.drop_zero] at h
  have hl : (toL s).length = s.size := toL_size s
  have hr : decide (runL wdB (toL s) = s.size) = (toL s).all wdB := by rw [← hl, Bool.eq_iff_iff, decide_eq_true_iff]; exact runL_full wdB (toL s)
  rw [hr, ← hl]
  generalize (toL s).drop (0 + 1) = q at h
  rw [identB, h]
  rfl

theorem identB_none {s : ByteArray} (h0 : s.size = 0) : identB s = false := by
  have : toL s = [] := List.eq_nil_of_length_eq_zero (by rw [toL_size]; exact h0)
  rw [identB, this]

set_option maxHeartbeats 1600000 in
theorem l2ident_any (s : ByteArray) (w : World) (hs : s.size ≤ 1048576) :
    Calls Tryz.prog 57 #[.string s] w fun e w' => e = .returned (.bool (identB s)) ∧ Below w.heap.size w w' := by
  by_cases h0 : s.size = 0
  · have i0 : ¬ ((0 : Int) < (s.size : Int)) := by omega
    rw [identB_none h0]
    go_enter Tryz.func57, Tryz.ntmps57
    go_wp2
    go_ret
    exact ⟨rfl, Below.refl _ _⟩
  have hp : 0 < s.size := by omega
  have i0 : (0 : Int) < (s.size : Int) := by omega
  have HI := hide (identB_eq hp)
  by_cases h32 : s.size ≤ 32
  case neg =>
    have i32 : ¬ ((s.size : Int) ≤ 32) := by omega
    have i33 : (32 : Int) < (s.size : Int) := by omega
    go_enter Tryz.func57, Tryz.ntmps57
    go_wp2
    go_ret
    exact ⟨ret_bool (by rw [unhide HI]; simp [h32]), Below.refl _ _⟩
  have i32 : (s.size : Int) ≤ 32 := by omega
  cases hl : ltI (s[0].toNat : Int)
  · have Hl := hide hl
    clear hl
    go_enter Tryz.func57, Tryz.ntmps57
    go_wp2_with (go_at_call 79; refine (l2letter_any _ _).mono ?_; rintro e w' ⟨rfl, hw⟩; rw [unhide Hl, hw]; clear hw)
    go_ret
    exact ⟨ret_bool (by rw [unhide HI, unhide Hl]; simp), Below.refl _ _⟩
  have Hl := hide hl
  clear hl
  have HE := hide (endS_zero wdB s)
  by_cases hr : runL wdB (toL s) = s.size
  · have er : (((runL wdB (toL s) : Nat) : Int) == (s.size : Int)) = true := beq_iff_eq.2 (by omega)
    go_enter Tryz.func57, Tryz.ntmps57
    go_wp2_with (first | (go_at_call 79; refine (l2letter_any _ _).mono ?_; rintro e w' ⟨rfl, hw⟩; rw [unhide Hl, hw]; clear hw) | (go_at_call 80; refine (l2run_any s 0 _ (by unfold maxLen; omega) (by omega)).mono ?_; rintro e w' ⟨rfl, hw⟩; rw [unhide HE, hw]; clear hw))
    refine (l2word_any s _).mono ?_
    rintro e w1 ⟨rfl, hb1⟩
    cases hw : isWd (toL s)
    · have Hw := hide hw
      clear hw
      go_wp2
      go_ret
      exact ⟨ret_bool (by rw [unhide HI, unhide Hl, unhide Hw]; simp [h32, hr]), hb1⟩
    · have Hw := hide hw
      clear hw
      go_wp2
      go_ret
      exact ⟨ret_bool (by rw [unhide HI, unhide Hw]; simp), hb1⟩
  · have er : (((runL wdB (toL s) : Nat) : Int) == (s.size : Int)) = false := beq_eq_false_iff_ne.2 (by omega)
    go_enter Tryz.func57, Tryz.ntmps57
    go_wp2_with (first | (go_at_call 79; refine (l2letter_any _ _).mono ?_; rintro e w' ⟨rfl, hw⟩; rw [unhide Hl, hw]; clear hw) | (go_at_call 80; refine (l2run_any s 0 _ (by unfold maxLen; omega) (by omega)).mono ?_; rintro e w' ⟨rfl, hw⟩; rw [unhide HE, hw]; clear hw))
    go_ret
    exact ⟨ret_bool (by rw [unhide HI]; simp [hr]), Below.refl _ _⟩

set_option maxHeartbeats 1600000 in
theorem couldBeName_any (s : ByteArray) (w : World) (hs : s.size ≤ 1048576) :
    Calls Tryz.prog 90 #[.string s] w fun e w' => e = .returned (.bool (identB s)) ∧ w' = w := by
  by_cases h0 : s.size = 0
  · rw [identB_none h0]
    have he := empty_of_size h0
    subst he
    go_enter Tryz.func90, Tryz.ntmps90
    go_wp2
    go_ret
    exact ⟨rfl, rfl⟩
  have hp : 0 < s.size := by omega
  have i0 : (0 : Int) < (s.size : Int) := by omega
  have hne := nonempty_of_size h0
  have HI := hide (identB_eq hp)
  by_cases h32 : s.size ≤ 32
  case neg =>
    have i32 : ¬ ((s.size : Int) ≤ 32) := by omega
    have i33 : (32 : Int) < (s.size : Int) := by omega
    go_enter Tryz.func90, Tryz.ntmps90
    go_wp2
    go_ret
    exact ⟨ret_bool (by rw [unhide HI]; simp [h32]), rfl⟩
  have i32 : (s.size : Int) ≤ 32 := by omega
  cases hl : ltI (s[0].toNat : Int)
  · have Hl := hide hl
    clear hl
    go_enter Tryz.func90, Tryz.ntmps90
    go_wp2_with (go_at_call 107; refine (isLetter_any _ _).mono ?_; rintro e w' ⟨rfl, hw⟩; rw [unhide Hl, hw]; clear hw)
    go_ret
    exact ⟨ret_bool (by rw [unhide HI, unhide Hl]; simp), rfl⟩
  have Hl := hide hl
  clear hl
  by_cases hr : runL wdB (toL s) = s.size
  · have er : (((runL wdB (toL s) : Nat) : Int) == (s.size : Int)) = true := beq_iff_eq.2 (by omega)
    go_enter Tryz.func90, Tryz.ntmps90
    go_wp2_with (first | (go_at_call 107; refine (isLetter_any _ _).mono ?_; rintro e w' ⟨rfl, hw⟩; rw [unhide Hl, hw]; clear hw) | (go_at_call 108; refine (runOf_wd s _ (by unfold maxLen; omega)).mono ?_; rintro e w' ⟨rfl, hw⟩; rw [hw]; clear hw))
    refine (isWord_any s _).mono ?_
    rintro e w1 ⟨rfl, hw1⟩
    rw [hw1]
    clear hw1
    cases hw : isWd (toL s)
    · have Hw := hide hw
      clear hw
      go_wp2
      go_ret
      exact ⟨ret_bool (by rw [unhide HI, unhide Hl, unhide Hw]; simp [h32, hr]), rfl⟩
    · have Hw := hide hw
      clear hw
      go_wp2
      go_ret
      exact ⟨ret_bool (by rw [unhide HI, unhide Hw]; simp), rfl⟩
  · have er : (((runL wdB (toL s) : Nat) : Int) == (s.size : Int)) = false := beq_eq_false_iff_ne.2 (by omega)
    go_enter Tryz.func90, Tryz.ntmps90
    go_wp2_with (first | (go_at_call 107; refine (isLetter_any _ _).mono ?_; rintro e w' ⟨rfl, hw⟩; rw [unhide Hl, hw]; clear hw) | (go_at_call 108; refine (runOf_wd s _ (by unfold maxLen; omega)).mono ?_; rintro e w' ⟨rfl, hw⟩; rw [hw]; clear hw))
    go_ret
    exact ⟨ret_bool (by rw [unhide HI]; simp [hr]), rfl⟩

theorem quotedB_eq (s : ByteArray) : quotedB s = (decide (s.size ≤ 32) && allNm s.data.toList) := rfl

theorem quotedB_or (s : ByteArray) : quotedB s = (decide (s.size = 0) || vnB s) := by
  rw [quotedB_eq, vnB]
  by_cases h : s.size = 0
  · have e := empty_of_size h
    subst e
    rfl
  · rw [show decide (s.size = 0) = false from decide_eq_false h, Bool.false_or, show decide (1 ≤ s.size ∧ s.size ≤ 32) = decide (s.size ≤ 32) by rw [decide_eq_decide]; omega]

set_option maxHeartbeats 800000 in
theorem l2quoted_any (s : ByteArray) (w : World) (hs : s.size ≤ 1048576) :
    Calls Tryz.prog 77 #[.string s] w fun e w' => e = .returned (.bool (quotedB s)) ∧ w' = w := by
  by_cases h0 : s.size = 0
  · have e := empty_of_size h0
    subst e
    go_enter Tryz.func77, Tryz.ntmps77
    go_wp2
    go_ret
    exact ⟨rfl, rfl⟩
  · have hne := nonempty_of_size h0
    have Hq := hide (show quotedB s = vnB s by rw [quotedB_or, decide_eq_false h0, Bool.false_or])
    go_enter Tryz.func77, Tryz.ntmps77
    go_wp2_with (go_at_call 101; refine (sValidName_any _ _ (by unfold maxLen; omega)).mono ?_; rintro e w' ⟨rfl, hw⟩; rw [hw]; clear hw)
    go_ret
    exact ⟨ret_bool (unhide Hq).symm, rfl⟩

set_option maxHeartbeats 1600000 in
theorem l2kids_any (op : Int) (w : World) :
    Calls Tryz.prog 76 #[.int .i64 op] w fun e w' => e = .returned (.int .i64 (kidN op)) ∧ w' = w := by
  go_enter Tryz.func76, Tryz.ntmps76
  go_wp2
  all_goals
    go_ret
    refine ⟨ret_int ?_, rfl⟩
    unfold kidN
    simp_all
    try omega

end Go.Proofs.YtddpcehgopeklaaGreatDoor

namespace Go.Proofs.YtddpcehgopeklaaGreatDoor
open Go.RowKit
set_option linter.unusedVariables false

theorem row5 {w : World} {b : Nat} {v0 v1 v2 v3 v4 : Value} {t : TypeId} (R : Row w b #[v0, v1, v2, v3, v4] t) : w.cell? ⟨b, 0, none⟩ = some v0 ∧ w.cell? ⟨b, 1, none⟩ = some v1 ∧ w.cell? ⟨b, 2, none⟩ = some v2 ∧ w.cell? ⟨b, 3, none⟩ = some v3 ∧ w.cell? ⟨b, 4, none⟩ = some v4 ∧ ∀ j, w.frozen? ⟨b, j, none⟩ = false :=
  ⟨by simpa using R.cell 0, by simpa using R.cell 1, by simpa using R.cell 2, by simpa using R.cell 3, by simpa using R.cell 4, fun j => R.frozen j⟩

theorem Strs.drew' {w : World} {a : Option Addr} {n c : Nat} {ss : List ByteArray} (h : Strs w a n c ss) : Strs w.drew a n c ss := ⟨h.len, h.cap, h.small, h.sizes, h.cells⟩

theorem tl_nil (s : ByteArray) : s.toList = [] ↔ s.size = 0 := by
  rw [ByteArray.toList_eq, ← List.length_eq_zero_iff]
  have : s.data.toList.length = s.size := by simp
  rw [this]

/-- a node by its value -/
def ndV (op num : Int) (text : ByteArray) (an : Option Addr) (nn cn : Nat) (ak : Option Addr) (nk ck : Nat) : Value := .agg #[.int .i64 op, .int .i64 num, .string text, .slice an nn cn, .slice ak nk ck]

set_option maxRecDepth 100000 in
set_option maxHeartbeats 3200000 in
theorem l2fields_any (x : Nd) (an : Option Addr) (nn cn : Nat) (ak : Option Addr) (nk ck : Nat) (w : World) (hN : Strs w an nn cn x.names) (hK : nk = x.kids.length) (hs : x.text.size ≤ 1048576) (hk : nk ≤ 1048576) :
    Calls Tryz.prog 56 #[ndV x.op x.num x.text an nn cn ak nk ck, .bool false] w fun e w' => e = .returned (.bool (fieldsB x)) ∧ Below w.heap.size w w' := by
  have hn := hN.len
  obtain ⟨op, num, text, names, kids⟩ := x
  simp only at hN hK hs hn ⊢
  have R0 := Row.new w #[.int .i64 op, .int .i64 num, .string text, .slice an nn cn, .slice ak nk ck] 53
  have B0 := (Below.refl w.heap.size w).alloc (Nat.le_refl _) (.cells #[.int .i64 op, .int .i64 num, .string text, .slice an nn cn, .slice ak nk ck] 53)
  have z0 : (w.alloc (.cells #[.int .i64 op, .int .i64 num, .string text, .slice an nn cn, .slice ak nk ck] 53)).heap.size = w.heap.size + 1 := by simp
  have Hn := hide hn
  have HK := hide hK
  clear hn hK
  have HF := hide (show fieldsB ⟨op, num, text, names, kids⟩ = (decide ((kids.length : Int) = kidN op) && (if op = 1 then decide (0 ≤ num) && decide (text.size = 0) && decide (names.length = 0) else if op = 2 then quotedB text && decide (num = 0) && decide (names.length = 0) else if op = 3 then decide (num = 0 ∨ num = 1) && decide (text.size = 0) && decide (names.length = 0) else if op = 4 then setB names && decide (num = 0) && decide (text.size = 0) else if op = 5 then identB text && decide (num = 0) && decide (names.length = 0) else if op = 6 ∨ op = 7 then false else decide (num = 0) && decide (text.size = 0) && decide (names.length = 0))) from rfl)
  rw [← unhide HK, ← unhide Hn] at HF
  generalize fieldsB ⟨op, num, text, names, kids⟩ = FB at HF ⊢
  unfold ndV
  go_enter Tryz.func56, Tryz.ntmps56
  go_wp2_with fail
  obtain ⟨c0, c1, c2, c3, c4, cf⟩ := row5 R0
  generalize w.alloc (.cells #[.int .i64 op, .int .i64 num, .string text, .slice an nn cn, .slice ak nk ck] 53) = W at *
  by_cases hkn : (nk : Int) = kidN op
  case neg =>
    have ek : ((nk : Int) != kidN op) = true := bne_iff_ne.2 hkn
    go_region_held3 (fun w' => w'.cell? ⟨w.heap.size, 4, none⟩ = some (.slice ak nk ck) ∧ w'.cell? ⟨w.heap.size, 0, none⟩ = some (.int .i64 op)) (go_keep)
      ((go_at_call 76; refine (l2kids_any _ _).mono ?_; rintro e w1 ⟨rfl, hw1⟩; rw [hw1]; clear hw1))
    all_goals
      go_wp2
      go_ret
      exact ⟨ret_bool (by rw [unhide HF, decide_eq_false hkn]; rfl), B0.drew⟩
  have ek : ((nk : Int) != kidN op) = false := by rw [hkn]; simp
  have Hkn := hide hkn
  clear hkn
  go_region_held3 (fun w' => w'.cell? ⟨w.heap.size, 4, none⟩ = some (.slice ak nk ck) ∧ w'.cell? ⟨w.heap.size, 0, none⟩ = some (.int .i64 op)) (go_keep)
    ((go_at_call 76; refine (l2kids_any _ _).mono ?_; rintro e w1 ⟨rfl, hw1⟩; rw [hw1]; clear hw1))
  have R1 : Row W.drew w.heap.size #[.int .i64 op, .int .i64 num, .string text, .slice an nn cn, .slice ak nk ck] 53 := ⟨R0.out⟩
  have B1 : Below w.heap.size w W.drew := B0.drew
  have N1 : Strs W.drew an nn cn names := (hN.below B0 (Nat.le_refl _)).drew'
  have z1 : W.drew.heap.size = w.heap.size + 1 := z0
  clear R0 B0 c0 c1 c2 c3 c4 cf hN z0
  generalize W.drew = W1 at R1 B1 N1 z1 ⊢
  have R2 := R1.alloc (.cells #[.int .i64 op, .int .i64 0, .string ⟨#[]⟩, .slice none 0 0, .slice none 0 0] 53)
  have B2 := B1.alloc (by omega) (.cells #[.int .i64 op, .int .i64 0, .string ⟨#[]⟩, .slice none 0 0, .slice none 0 0] 53)
  have N2 := N1.below ((Below.refl W1.heap.size W1).alloc (Nat.le_refl _) (.cells #[.int .i64 op, .int .i64 0, .string ⟨#[]⟩, .slice none 0 0, .slice none 0 0] 53)) (Nat.le_refl _)
  have Q2 := Row.new W1 #[.int .i64 op, .int .i64 0, .string ⟨#[]⟩, .slice none 0 0, .slice none 0 0] 53
  rw [z1] at Q2
  have z2 : (W1.alloc (.cells #[.int .i64 op, .int .i64 0, .string ⟨#[]⟩, .slice none 0 0, .slice none 0 0] 53)).heap.size = w.heap.size + 2 := by simp [z1]
  obtain ⟨c0, c1, c2, c3, c4, cf⟩ := row5 R1
  have tl := tl_nil text
  by_cases o1 : op = 1
  · subst o1
    have HF := hide ((unhide HF).trans (by rw [decide_eq_true (unhide Hkn), if_pos rfl, Bool.true_and]))
    go_wp2
    all_goals
      go_ret
      refine ⟨ret_bool ?_, B1.alloc (by omega) _⟩
      rw [unhide HF]
      have nb : ((nn : Int) == 0) = decide (nn = 0) := by rw [Bool.eq_iff_iff]; simp
      clear HF R1 R2 Q2 B1 B2 N1 N2 c0 c1 c2 c3 c4 cf
      simp_all
      try omega
  by_cases o2 : op = 2
  · subst o2
    have HF := hide ((unhide HF).trans (by rw [decide_eq_true (unhide Hkn), if_neg (by omega), if_pos rfl, Bool.true_and]))
    cases hq : quotedB text
    · have Hq := hide hq
      clear hq
      go_wp2_with (go_at_call 77; refine (l2quoted_any _ _ hs).mono ?_; rintro e w' ⟨rfl, hw⟩; rw [unhide Hq, hw]; clear hw)
      all_goals
        go_ret
        refine ⟨ret_bool ?_, B1.alloc (by omega) _⟩
        rw [unhide HF]
        have hq := unhide Hq
        have nb : ((nn : Int) == 0) = decide (nn = 0) := by rw [Bool.eq_iff_iff]; simp
        clear HF R1 R2 Q2 B1 B2 N1 N2 c0 c1 c2 c3 c4 cf
        simp_all
        try omega
    · have Hq := hide hq
      clear hq
      go_wp2_with (go_at_call 77; refine (l2quoted_any _ _ hs).mono ?_; rintro e w' ⟨rfl, hw⟩; rw [unhide Hq, hw]; clear hw)
      all_goals
        go_ret
        refine ⟨ret_bool ?_, B1.alloc (by omega) _⟩
        rw [unhide HF]
        have hq := unhide Hq
        have nb : ((nn : Int) == 0) = decide (nn = 0) := by rw [Bool.eq_iff_iff]; simp
        clear HF R1 R2 Q2 B1 B2 N1 N2 c0 c1 c2 c3 c4 cf
        simp_all
        try omega
  by_cases o3 : op = 3
  · subst o3
    have HF := hide ((unhide HF).trans (by rw [decide_eq_true (unhide Hkn), if_neg (by omega), if_neg (by omega), if_pos rfl, Bool.true_and]))
    go_wp2
    all_goals
      go_ret
      refine ⟨ret_bool ?_, B1.alloc (by omega) _⟩
      rw [unhide HF]
      have nb : ((nn : Int) == 0) = decide (nn = 0) := by rw [Bool.eq_iff_iff]; simp
      clear HF R1 R2 Q2 B1 B2 N1 N2 c0 c1 c2 c3 c4 cf
      simp_all
      try omega
  by_cases o4 : op = 4
  · subst o4
    have HF := hide ((unhide HF).trans (by rw [decide_eq_true (unhide Hkn), if_neg (by omega), if_neg (by omega), if_neg (by omega), if_pos rfl, Bool.true_and]))
    cases hq : setB names
    · have Hq := hide hq
      clear hq
      go_wp2_with (go_at_call 78; refine (sIsSet_any _ _ _ _ _ N2).mono ?_; rintro e w' ⟨rfl, hw⟩; rw [unhide Hq, hw]; clear hw)
      all_goals
        go_ret
        refine ⟨ret_bool ?_, B1.alloc (by omega) _⟩
        rw [unhide HF]
        have hq := unhide Hq
        have nb : ((nn : Int) == 0) = decide (nn = 0) := by rw [Bool.eq_iff_iff]; simp
        clear HF R1 R2 Q2 B1 B2 N1 N2 c0 c1 c2 c3 c4 cf
        simp_all
        try omega
    · have Hq := hide hq
      clear hq
      go_wp2_with (go_at_call 78; refine (sIsSet_any _ _ _ _ _ N2).mono ?_; rintro e w' ⟨rfl, hw⟩; rw [unhide Hq, hw]; clear hw)
      all_goals
        go_ret
        refine ⟨ret_bool ?_, B1.alloc (by omega) _⟩
        rw [unhide HF]
        have hq := unhide Hq
        have nb : ((nn : Int) == 0) = decide (nn = 0) := by rw [Bool.eq_iff_iff]; simp
        clear HF R1 R2 Q2 B1 B2 N1 N2 c0 c1 c2 c3 c4 cf
        simp_all
        try omega
  by_cases o5 : op = 5
  · subst o5
    have HF := hide ((unhide HF).trans (by rw [decide_eq_true (unhide Hkn), if_neg (by omega), if_neg (by omega), if_neg (by omega), if_neg (by omega), if_pos rfl, Bool.true_and]))
    cases hq : identB text
    · have Hq := hide hq
      clear hq
      go_wp2_with fail
      refine (l2ident_any _ _ hs).mono ?_
      rintro e w2 ⟨rfl, hb2⟩
      rw [unhide Hq]
      have R3 := R2.after hb2 (Nat.le_refl _)
      have Q3 := Q2.after hb2 (Nat.le_refl _)
      have B3 := B2.trans (hb2.mono B2.size)
      clear R1 R2 Q2 B2 N1 N2 c0 c1 c2 c3 c4 cf hb2
      obtain ⟨c0, c1, c2, c3, c4, cf⟩ := row5 R3
      obtain ⟨d0, d1, d2, d3, d4, df⟩ := row5 Q3
      go_wp2
      all_goals
        go_ret
        refine ⟨ret_bool ?_, B3⟩
        rw [unhide HF]
        have hq := unhide Hq
        have nb : ((nn : Int) == 0) = decide (nn = 0) := by rw [Bool.eq_iff_iff]; simp
        clear HF R3 Q3 B3 B1 c0 c1 c2 c3 c4 cf d0 d1 d2 d3 d4 df
        simp_all
        try omega
    · have Hq := hide hq
      clear hq
      go_wp2_with fail
      refine (l2ident_any _ _ hs).mono ?_
      rintro e w2 ⟨rfl, hb2⟩
      rw [unhide Hq]
      have R3 := R2.after hb2 (Nat.le_refl _)
      have Q3 := Q2.after hb2 (Nat.le_refl _)
      have B3 := B2.trans (hb2.mono B2.size)
      clear R1 R2 Q2 B2 N1 N2 c0 c1 c2 c3 c4 cf hb2
      obtain ⟨c0, c1, c2, c3, c4, cf⟩ := row5 R3
      obtain ⟨d0, d1, d2, d3, d4, df⟩ := row5 Q3
      go_wp2
      all_goals
        go_ret
        refine ⟨ret_bool ?_, B3.setCell (p := ⟨w.heap.size + 1, 2, none⟩) (by show w.heap.size ≤ w.heap.size + 1; omega) _⟩
        rw [unhide HF]
        have hq := unhide Hq
        have nb : ((nn : Int) == 0) = decide (nn = 0) := by rw [Bool.eq_iff_iff]; simp
        clear HF R3 Q3 B3 B1 c0 c1 c2 c3 c4 cf d0 d1 d2 d3 d4 df
        simp_all
        try omega
  by_cases o6 : op = 6
  · subst o6
    have HF := hide ((unhide HF).trans (by rw [decide_eq_true (unhide Hkn), if_neg (by omega), if_neg (by omega), if_neg (by omega), if_neg (by omega), if_neg (by omega), if_pos (by omega), Bool.true_and]))
    go_wp2
    all_goals
      go_ret
      refine ⟨ret_bool ?_, B1.alloc (by omega) _⟩
      rw [unhide HF]
      have nb : ((nn : Int) == 0) = decide (nn = 0) := by rw [Bool.eq_iff_iff]; simp
      clear HF R1 R2 Q2 B1 B2 N1 N2 c0 c1 c2 c3 c4 cf
      simp_all
      try omega
  by_cases o7 : op = 7
  · subst o7
    have HF := hide ((unhide HF).trans (by rw [decide_eq_true (unhide Hkn), if_neg (by omega), if_neg (by omega), if_neg (by omega), if_neg (by omega), if_neg (by omega), if_pos (by omega), Bool.true_and]))
    go_wp2
    all_goals
      go_ret
      refine ⟨ret_bool ?_, B1.alloc (by omega) _⟩
      rw [unhide HF]
      have nb : ((nn : Int) == 0) = decide (nn = 0) := by rw [Bool.eq_iff_iff]; simp
      clear HF R1 R2 Q2 B1 B2 N1 N2 c0 c1 c2 c3 c4 cf
      simp_all
      try omega
  have HF := hide ((unhide HF).trans (by rw [decide_eq_true (unhide Hkn), if_neg o1, if_neg o2, if_neg o3, if_neg o4, if_neg o5, if_neg (by omega), Bool.true_and]))
  have p1 := beq_eq_false_iff_ne.2 o1
  have p2 := beq_eq_false_iff_ne.2 o2
  have p3 := beq_eq_false_iff_ne.2 o3
  have p4 := beq_eq_false_iff_ne.2 o4
  have p5 := beq_eq_false_iff_ne.2 o5
  have p6 := beq_eq_false_iff_ne.2 o6
  have p7 := beq_eq_false_iff_ne.2 o7
  go_wp2
  all_goals
    go_ret
    refine ⟨ret_bool ?_, B1.alloc (by omega) _⟩
    rw [unhide HF]
    have nb : ((nn : Int) == 0) = decide (nn = 0) := by rw [Bool.eq_iff_iff]; simp
    clear HF R1 R2 Q2 B1 B2 N1 N2 c0 c1 c2 c3 c4 cf
    simp_all
    try omega

end Go.Proofs.YtddpcehgopeklaaGreatDoor

namespace Go.Proofs.YtddpcehgopeklaaGreatDoor
open Go.RowKit
set_option linter.unusedVariables false

/-- the fields of a node, but for its kids -/
def wfB (x : Nd) : Bool :=
  if x.op = 1 then decide (0 ≤ x.num) && decide (x.text.size = 0) && decide (x.names.length = 0)
  else if x.op = 2 then quotedB x.text && decide (x.num = 0) && decide (x.names.length = 0)
  else if x.op = 3 then decide (x.num = 0 ∨ x.num = 1) && decide (x.text.size = 0) && decide (x.names.length = 0)
  else if x.op = 4 then setB x.names && decide (x.num = 0) && decide (x.text.size = 0)
  else if x.op = 5 then identB x.text && decide (x.num = 0) && decide (x.names.length = 0)
  else if x.op = 6 ∨ x.op = 7 then false
  else decide (x.num = 0) && decide (x.text.size = 0) && decide (x.names.length = 0)

theorem fieldsB_wf (x : Nd) : fieldsB x = (decide ((x.kids.length : Int) = kidN x.op) && wfB x) := rfl

set_option maxRecDepth 100000 in
set_option maxHeartbeats 3200000 in
theorem writtenFields_any (x : Nd) (an : Option Addr) (nn cn : Nat) (ak : Option Addr) (nk ck : Nat) (w : World) (hN : Strs w an nn cn x.names) (hs : x.text.size ≤ 1048576) :
    Calls Tryz.prog 64 #[ndV x.op x.num x.text an nn cn ak nk ck] w fun e w' => e = .returned (.bool (wfB x)) ∧ Below w.heap.size w w' := by
  have hn := hN.len
  obtain ⟨op, num, text, names, kids⟩ := x
  simp only at hN hs hn ⊢
  have R0 := Row.new w #[.int .i64 op, .int .i64 num, .string text, .slice an nn cn, .slice ak nk ck] 53
  have B0 := (Below.refl w.heap.size w).alloc (Nat.le_refl _) (.cells #[.int .i64 op, .int .i64 num, .string text, .slice an nn cn, .slice ak nk ck] 53)
  have N0 := hN.below B0 (Nat.le_refl _)
  have Hn := hide hn
  clear hn
  have HF := hide (show wfB ⟨op, num, text, names, kids⟩ = (if op = 1 then decide (0 ≤ num) && decide (text.size = 0) && decide (names.length = 0) else if op = 2 then quotedB text && decide (num = 0) && decide (names.length = 0) else if op = 3 then decide (num = 0 ∨ num = 1) && decide (text.size = 0) && decide (names.length = 0) else if op = 4 then setB names && decide (num = 0) && decide (text.size = 0) else if op = 5 then identB text && decide (num = 0) && decide (names.length = 0) else if op = 6 ∨ op = 7 then false else decide (num = 0) && decide (text.size = 0) && decide (names.length = 0)) from rfl)
  rw [← unhide Hn] at HF
  generalize wfB ⟨op, num, text, names, kids⟩ = FB at HF ⊢
  unfold ndV
  have tl := tl_nil text
  obtain ⟨c0, c1, c2, c3, c4, cf⟩ := row5 R0
  go_enter Tryz.func64, Tryz.ntmps64
  go_wp2_with fail
  generalize w.alloc (.cells #[.int .i64 op, .int .i64 num, .string text, .slice an nn cn, .slice ak nk ck] 53) = W at *
  go_region
  have R1 : Row W.drew w.heap.size #[.int .i64 op, .int .i64 num, .string text, .slice an nn cn, .slice ak nk ck] 53 := ⟨R0.out⟩
  have B1 : Below w.heap.size w W.drew := B0.drew
  have N1 : Strs W.drew an nn cn names := N0.drew'
  clear R0 B0 N0 c0 c1 c2 c3 c4 cf hN
  generalize W.drew = W1 at R1 B1 N1 ⊢
  obtain ⟨c0, c1, c2, c3, c4, cf⟩ := row5 R1
  by_cases o1 : op = 1
  · subst o1
    have HF := hide ((unhide HF).trans (by rw [if_pos rfl]))
    go_wp2
    all_goals
      go_ret
      refine ⟨ret_bool ?_, B1⟩
      rw [unhide HF]
      have ti : text.toList.isEmpty = decide (text.size = 0) := by rw [Bool.eq_iff_iff, List.isEmpty_iff, decide_eq_true_iff]; exact tl_nil text
      have nb : ((nn : Int) == 0) = decide (nn = 0) := by rw [Bool.eq_iff_iff]; simp
      clear HF R1 B1 N1 c0 c1 c2 c3 c4 cf
      simp_all
      try omega
  by_cases o2 : op = 2
  · subst o2
    have HF := hide ((unhide HF).trans (by rw [if_neg (by omega), if_pos rfl]))
    cases hq : quotedB text
    · have Hq := hide hq
      clear hq
      go_wp2_with (go_at_call 89; refine (nameBytes_any _ _ (by unfold maxLen; omega)).mono ?_; rintro e w2 ⟨rfl, hw⟩; rw [← quotedB_eq, unhide Hq, hw]; clear hw)
      all_goals
        go_ret
        refine ⟨ret_bool ?_, B1⟩
        rw [unhide HF]
        have hq := unhide Hq
        have ti : text.toList.isEmpty = decide (text.size = 0) := by rw [Bool.eq_iff_iff, List.isEmpty_iff, decide_eq_true_iff]; exact tl_nil text
        have nb : ((nn : Int) == 0) = decide (nn = 0) := by rw [Bool.eq_iff_iff]; simp
        clear HF R1 B1 N1 c0 c1 c2 c3 c4 cf
        simp_all
        try omega
    · have Hq := hide hq
      clear hq
      go_wp2_with (go_at_call 89; refine (nameBytes_any _ _ (by unfold maxLen; omega)).mono ?_; rintro e w2 ⟨rfl, hw⟩; rw [← quotedB_eq, unhide Hq, hw]; clear hw)
      all_goals
        go_ret
        refine ⟨ret_bool ?_, B1⟩
        rw [unhide HF]
        have hq := unhide Hq
        have ti : text.toList.isEmpty = decide (text.size = 0) := by rw [Bool.eq_iff_iff, List.isEmpty_iff, decide_eq_true_iff]; exact tl_nil text
        have nb : ((nn : Int) == 0) = decide (nn = 0) := by rw [Bool.eq_iff_iff]; simp
        clear HF R1 B1 N1 c0 c1 c2 c3 c4 cf
        simp_all
        try omega
  by_cases o3 : op = 3
  · subst o3
    have HF := hide ((unhide HF).trans (by rw [if_neg (by omega), if_neg (by omega), if_pos rfl]))
    go_wp2
    all_goals
      go_ret
      refine ⟨ret_bool ?_, B1⟩
      rw [unhide HF]
      have ti : text.toList.isEmpty = decide (text.size = 0) := by rw [Bool.eq_iff_iff, List.isEmpty_iff, decide_eq_true_iff]; exact tl_nil text
      have nb : ((nn : Int) == 0) = decide (nn = 0) := by rw [Bool.eq_iff_iff]; simp
      clear HF R1 B1 N1 c0 c1 c2 c3 c4 cf
      simp_all
      try omega
  by_cases o4 : op = 4
  · subst o4
    have HF := hide ((unhide HF).trans (by rw [if_neg (by omega), if_neg (by omega), if_neg (by omega), if_pos rfl]))
    cases hq : setB names
    · have Hq := hide hq
      clear hq
      go_wp2_with (go_at_call 91; refine (iIsSet_any _ _ _ _ _ N1).mono ?_; rintro e w2 ⟨rfl, hb2⟩; rw [unhide Hq]; have B2 := B1.trans (hb2.mono B1.size))
      all_goals
        go_ret
        refine ⟨ret_bool ?_, B2⟩
        rw [unhide HF]
        have hq := unhide Hq
        have ti : text.toList.isEmpty = decide (text.size = 0) := by rw [Bool.eq_iff_iff, List.isEmpty_iff, decide_eq_true_iff]; exact tl_nil text
        have nb : ((nn : Int) == 0) = decide (nn = 0) := by rw [Bool.eq_iff_iff]; simp
        clear HF R1 B1 N1 c0 c1 c2 c3 c4 cf
        simp_all
        try omega
    · have Hq := hide hq
      clear hq
      go_wp2_with (go_at_call 91; refine (iIsSet_any _ _ _ _ _ N1).mono ?_; rintro e w2 ⟨rfl, hb2⟩; rw [unhide Hq]; have B2 := B1.trans (hb2.mono B1.size))
      all_goals
        go_ret
        refine ⟨ret_bool ?_, B2⟩
        rw [unhide HF]
        have hq := unhide Hq
        have ti : text.toList.isEmpty = decide (text.size = 0) := by rw [Bool.eq_iff_iff, List.isEmpty_iff, decide_eq_true_iff]; exact tl_nil text
        have nb : ((nn : Int) == 0) = decide (nn = 0) := by rw [Bool.eq_iff_iff]; simp
        clear HF R1 B1 N1 c0 c1 c2 c3 c4 cf
        simp_all
        try omega
  by_cases o5 : op = 5
  · subst o5
    have HF := hide ((unhide HF).trans (by rw [if_neg (by omega), if_neg (by omega), if_neg (by omega), if_neg (by omega), if_pos rfl]))
    cases hq : identB text
    · have Hq := hide hq
      clear hq
      go_wp2_with (go_at_call 90; refine (couldBeName_any _ _ hs).mono ?_; rintro e w2 ⟨rfl, hw⟩; rw [unhide Hq, hw]; clear hw)
      all_goals
        go_ret
        refine ⟨ret_bool ?_, B1⟩
        rw [unhide HF]
        have hq := unhide Hq
        have ti : text.toList.isEmpty = decide (text.size = 0) := by rw [Bool.eq_iff_iff, List.isEmpty_iff, decide_eq_true_iff]; exact tl_nil text
        have nb : ((nn : Int) == 0) = decide (nn = 0) := by rw [Bool.eq_iff_iff]; simp
        clear HF R1 B1 N1 c0 c1 c2 c3 c4 cf
        simp_all
        try omega
    · have Hq := hide hq
      clear hq
      go_wp2_with (go_at_call 90; refine (couldBeName_any _ _ hs).mono ?_; rintro e w2 ⟨rfl, hw⟩; rw [unhide Hq, hw]; clear hw)
      all_goals
        go_ret
        refine ⟨ret_bool ?_, B1⟩
        rw [unhide HF]
        have hq := unhide Hq
        have ti : text.toList.isEmpty = decide (text.size = 0) := by rw [Bool.eq_iff_iff, List.isEmpty_iff, decide_eq_true_iff]; exact tl_nil text
        have nb : ((nn : Int) == 0) = decide (nn = 0) := by rw [Bool.eq_iff_iff]; simp
        clear HF R1 B1 N1 c0 c1 c2 c3 c4 cf
        simp_all
        try omega
  by_cases o6 : op = 6
  · subst o6
    have HF := hide ((unhide HF).trans (by rw [if_neg (by omega), if_neg (by omega), if_neg (by omega), if_neg (by omega), if_neg (by omega), if_pos (by omega)]))
    go_wp2
    all_goals
      go_ret
      refine ⟨ret_bool ?_, B1⟩
      rw [unhide HF]
      have ti : text.toList.isEmpty = decide (text.size = 0) := by rw [Bool.eq_iff_iff, List.isEmpty_iff, decide_eq_true_iff]; exact tl_nil text
      have nb : ((nn : Int) == 0) = decide (nn = 0) := by rw [Bool.eq_iff_iff]; simp
      clear HF R1 B1 N1 c0 c1 c2 c3 c4 cf
      simp_all
      try omega
  by_cases o7 : op = 7
  · subst o7
    have HF := hide ((unhide HF).trans (by rw [if_neg (by omega), if_neg (by omega), if_neg (by omega), if_neg (by omega), if_neg (by omega), if_pos (by omega)]))
    go_wp2
    all_goals
      go_ret
      refine ⟨ret_bool ?_, B1⟩
      rw [unhide HF]
      have ti : text.toList.isEmpty = decide (text.size = 0) := by rw [Bool.eq_iff_iff, List.isEmpty_iff, decide_eq_true_iff]; exact tl_nil text
      have nb : ((nn : Int) == 0) = decide (nn = 0) := by rw [Bool.eq_iff_iff]; simp
      clear HF R1 B1 N1 c0 c1 c2 c3 c4 cf
      simp_all
      try omega
  have HF := hide ((unhide HF).trans (by rw [if_neg o1, if_neg o2, if_neg o3, if_neg o4, if_neg o5, if_neg (by omega)]))
  have p1 := beq_eq_false_iff_ne.2 o1
  have p2 := beq_eq_false_iff_ne.2 o2
  have p3 := beq_eq_false_iff_ne.2 o3
  have p4 := beq_eq_false_iff_ne.2 o4
  have p5 := beq_eq_false_iff_ne.2 o5
  have p6 := beq_eq_false_iff_ne.2 o6
  have p7 := beq_eq_false_iff_ne.2 o7
  go_wp2
  all_goals
    go_ret
    refine ⟨ret_bool ?_, B1⟩
    rw [unhide HF]
    have ti : text.toList.isEmpty = decide (text.size = 0) := by rw [Bool.eq_iff_iff, List.isEmpty_iff, decide_eq_true_iff]; exact tl_nil text
    have nb : ((nn : Int) == 0) = decide (nn = 0) := by rw [Bool.eq_iff_iff]; simp
    clear HF R1 B1 N1 c0 c1 c2 c3 c4 cf
    simp_all
    try omega

end Go.Proofs.YtddpcehgopeklaaGreatDoor

namespace Go.Proofs.YtddpcehgopeklaaGreatDoor
open Go.RowKit
set_option linter.unusedVariables false

theorem row4' {w : World} {b : Nat} {v0 v1 v2 v3 : Value} {t : TypeId} (R : Row w b #[v0, v1, v2, v3] t) : w.cell? ⟨b, 0, none⟩ = some v0 ∧ w.cell? ⟨b, 1, none⟩ = some v1 ∧ w.cell? ⟨b, 2, none⟩ = some v2 ∧ w.cell? ⟨b, 3, none⟩ = some v3 ∧ ∀ j, w.frozen? ⟨b, j, none⟩ = false :=
  ⟨by simpa using R.cell 0, by simpa using R.cell 1, by simpa using R.cell 2, by simpa using R.cell 3, fun j => R.frozen j⟩

/-- a statement by its value -/
def stV (s : St) : Value := .agg #[.int .i64 s.kind, .string s.name, .int .i64 s.cond, .int .i64 s.grant]

set_option maxRecDepth 100000 in
set_option maxHeartbeats 3200000 in
theorem validStmt_any (s : St) (w : World) (hs : s.name.size ≤ 1048576) :
    Calls Tryz.prog 104 #[stV s] w fun e w' => e = .returned (.bool (stmtI s)) ∧ Below w.heap.size w w' := by
  obtain ⟨kind, name, cond, grant⟩ := s
  simp only at hs
  have B0 := (Below.refl w.heap.size w).alloc (Nat.le_refl _) (.cells #[.int .i64 kind, .string name, .int .i64 cond, .int .i64 grant] 77)
  have HF := hide (show stmtI ⟨kind, name, cond, grant⟩ = (if kind = 1 then identB name && decide (grant = -1) else if kind = 2 then decide (name.size = 0) else if kind = 3 then decide (name.size = 0) && decide (cond = -1) else false) from rfl)
  generalize stmtI ⟨kind, name, cond, grant⟩ = FB at HF ⊢
  unfold stV
  have tl := tl_nil name
  by_cases k1 : kind = 1
  · subst k1
    cases hq : identB name
    · have Hq := hide hq
      clear hq
      go_enter Tryz.func104, Tryz.ntmps104
      go_wp2_with (go_at_call 90; refine (couldBeName_any _ _ hs).mono ?_; rintro e w2 ⟨rfl, hw⟩; rw [unhide Hq, hw]; clear hw)
      all_goals
        go_ret
        refine ⟨ret_bool ?_, (Below.refl w.heap.size w).alloc (Nat.le_refl _) _⟩
        rw [unhide HF, unhide Hq]
        simp
    · have Hq := hide hq
      clear hq
      go_enter Tryz.func104, Tryz.ntmps104
      go_wp2_with (go_at_call 90; refine (couldBeName_any _ _ hs).mono ?_; rintro e w2 ⟨rfl, hw⟩; rw [unhide Hq, hw]; clear hw)
      all_goals
        go_ret
        refine ⟨ret_bool ?_, (Below.refl w.heap.size w).alloc (Nat.le_refl _) _⟩
        rw [unhide HF, unhide Hq]
        simp
        try rfl
  by_cases k2 : kind = 2
  · subst k2
    go_enter Tryz.func104, Tryz.ntmps104
    go_wp2
    all_goals
      go_ret
      refine ⟨ret_bool ?_, (Below.refl w.heap.size w).alloc (Nat.le_refl _) _⟩
      rw [unhide HF]
      have ti : name.toList.isEmpty = decide (name.size = 0) := by rw [Bool.eq_iff_iff, List.isEmpty_iff, decide_eq_true_iff]; exact tl_nil name
      clear HF B0
      simp_all
  by_cases k3 : kind = 3
  · subst k3
    go_enter Tryz.func104, Tryz.ntmps104
    go_wp2
    all_goals
      go_ret
      refine ⟨ret_bool ?_, (Below.refl w.heap.size w).alloc (Nat.le_refl _) _⟩
      rw [unhide HF]
      have ti : name.toList.isEmpty = decide (name.size = 0) := by rw [Bool.eq_iff_iff, List.isEmpty_iff, decide_eq_true_iff]; exact tl_nil name
      have cb : (cond == -1) = decide (cond = -1) := rfl
      clear HF B0
      simp_all
  have e1 := beq_eq_false_iff_ne.2 k1
  have e2 := beq_eq_false_iff_ne.2 k2
  have e3 := beq_eq_false_iff_ne.2 k3
  go_enter Tryz.func104, Tryz.ntmps104
  go_wp2
  go_ret
  exact ⟨ret_bool (by rw [unhide HF, if_neg k1, if_neg k2, if_neg k3]), B0⟩

end Go.Proofs.YtddpcehgopeklaaGreatDoor

namespace Go.Proofs.YtddpcehgopeklaaGreatDoor
open Go.RowKit
set_option linter.unusedVariables false

/-- A slice of statements. -/
structure Sts (w : World) (a : Option Addr) (n c : Nat) (L : List St) : Prop where
  len : L.length = n
  small : n ≤ 1048576
  sizes : ∀ s ∈ L, s.name.size ≤ 1048576
  cells : ∀ j, (h : j < L.length) → ∃ b off, a = some ⟨b, off, none⟩ ∧ b < w.heap.size ∧ w.cell? ⟨b, off + j * 4, none⟩ = some (.int .i64 L[j].kind) ∧ w.cell? ⟨b, off + j * 4 + 1, none⟩ = some (.string L[j].name) ∧ w.cell? ⟨b, off + j * 4 + 2, none⟩ = some (.int .i64 L[j].cond) ∧ w.cell? ⟨b, off + j * 4 + 3, none⟩ = some (.int .i64 L[j].grant)

theorem Sts.below {w w' : World} {B : Nat} {a : Option Addr} {n c : Nat} {L : List St} (h : Sts w a n c L) (hb : Below B w w') (hB : w.heap.size ≤ B) : Sts w' a n c L :=
  ⟨h.len, h.small, h.sizes, fun j hj => by
    obtain ⟨b, off, ha, hl, c0, c1, c2, c3⟩ := h.cells j hj
    have hl' : b < B := by omega
    exact ⟨b, off, ha, Nat.lt_of_lt_of_le hl hb.size, (hb.cell (p := ⟨b, off + j * 4, none⟩) hl').trans c0, (hb.cell (p := ⟨b, off + j * 4 + 1, none⟩) hl').trans c1, (hb.cell (p := ⟨b, off + j * 4 + 2, none⟩) hl').trans c2, (hb.cell (p := ⟨b, off + j * 4 + 3, none⟩) hl').trans c3⟩⟩

/-- the statement at a place, as the program asks for it -/
def stAt (L : List St) (j : Nat) (h : j < L.length) : Bool := stmtI L[j] && (decide (L[j].kind = 3) == decide (j + 1 = L.length))

theorem stmtsI_iff : ∀ (L : List St), stmtsI L = true ↔ ∀ j, (h : j < L.length) → stAt L j h = true
  | [] => by simp [stmtsI]
  | s :: r => by
    rw [stmtsI, Bool.and_eq_true, stmtsI_iff r]
    have e : r.isEmpty = decide (0 + 1 = (s :: r).length) := by cases r <;> simp
    constructor
    · rintro ⟨h1, h2⟩ j hj
      cases j with
      | zero => rw [e] at h1; exact h1
      | succ j =>
        have := h2 j (by simpa using hj)
        rw [stAt] at this ⊢
        simp only [List.getElem_cons_succ, List.length_cons] at this ⊢
        rw [show decide (j + 1 + 1 = r.length + 1) = decide (j + 1 = r.length) by rw [decide_eq_decide]; omega]
        exact this
    · intro h
      refine ⟨by rw [e]; exact h 0 (by simp), fun j hj => ?_⟩
      have := h (j + 1) (by simpa using hj)
      rw [stAt] at this ⊢
      simp only [List.getElem_cons_succ, List.length_cons] at this
      rw [show decide (j + 1 + 1 = r.length + 1) = decide (j + 1 = r.length) by rw [decide_eq_decide]; omega] at this
      exact this

theorem validStmt_agg (s : St) (w : World) (hs : s.name.size ≤ 1048576) :
    Calls Tryz.prog 104 #[.agg #[.int .i64 s.kind, .string s.name, .int .i64 s.cond, .int .i64 s.grant]] w fun e w' => e = .returned (.bool (stmtI s)) ∧ Below w.heap.size w w' := validStmt_any s w hs

set_option maxRecDepth 100000 in
set_option maxHeartbeats 3200000 in
theorem validStmts_any (a : Option Addr) (n c : Nat) (L : List St) (w : World) (h : Sts w a n c L) :
    Calls Tryz.prog 84 #[.slice a n c] w fun e w' => e = .returned (.bool (decide (1 ≤ n ∧ n ≤ 600) && stmtsI L)) ∧ Below w.heap.size w w' := by
  have hn := h.small
  by_cases h1 : n < 1
  · have i1 : (n : Int) < 1 := by omega
    go_enter Tryz.func84, Tryz.ntmps84
    go_wp2
    go_ret
    exact ⟨ret_bool (by simp; omega), Below.refl _ _⟩
  have i1 : ¬ ((n : Int) < 1) := by omega
  by_cases h6 : 600 < n
  · have i6 : (600 : Int) < (n : Int) := by omega
    go_enter Tryz.func84, Tryz.ntmps84
    go_wp2
    go_ret
    exact ⟨ret_bool (by simp; omega), Below.refl _ _⟩
  have i6 : ¬ ((600 : Int) < (n : Int)) := by omega
  have HD := hide (show decide (1 ≤ n ∧ n ≤ 600) = true from decide_eq_true ⟨by omega, by omega⟩)
  have hl := h.len
  have HL := hide hl
  clear hl
  go_enter Tryz.func84, Tryz.ntmps84
  go_wp2_with fail
  go_loopw [16] (fun i wr => ∃ (k : Nat), k ≤ n ∧ i = .int .i64 k ∧ Below w.heap.size w wr ∧ ∀ j, (hj : j < L.length) → j < k → stAt L j hj = true) (fun i _ => n - (intOf i).toNat)
  case atStart => exact ⟨0, Nat.zero_le _, rfl, Below.refl _ _, fun j hj hk => by omega⟩
  case round =>
    obtain ⟨k, hk, rfl, B1, hal⟩ := hrel
    have Ha := hide hal
    clear hal
    by_cases hlt : k < n
    · have ilt : (k : Int) < (n : Int) := by omega
      have hkl : k < L.length := by rw [unhide HL]; exact hlt
      obtain ⟨b, off, rfl, hb, c0, c1, c2, c3⟩ := (h.below B1 (Nat.le_refl _)).cells k hkl
      have hsz := h.sizes L[k] (List.getElem_mem hkl)
      have HS := hide (show stAt L k hkl = (stmtI L[k] && (decide (L[k].kind = 3) == decide (k + 1 = n))) by rw [stAt, unhide HL])
      generalize L[k] = s at c0 c1 c2 c3 hsz HS
      have R1 := Row.new wr #[.int .i64 s.kind, .string s.name, .int .i64 s.cond, .int .i64 s.grant] 77
      have B2 := B1.alloc B1.size (.cells #[.int .i64 s.kind, .string s.name, .int .i64 s.cond, .int .i64 s.grant] 77)
      have Hno0 := hide (show stAt L k hkl = false → stmtsI L = false from fun e => by
        rw [← Bool.not_eq_true, stmtsI_iff]
        intro k'
        rw [k' k hkl] at e
        cases e)
      have HN := hide (show stAt L k hkl = true → ∀ j, (hj : j < L.length) → j < k + 1 → stAt L j hj = true from fun e j hj h' => by
        by_cases ej : j = k
        · subst ej; exact e
        · exact unhide Ha j hj (by omega))
      clear Ha
      have Hlt := hide hlt
      by_cases kl : k + 1 = n
      · have el : ((k : Int) == (n : Int) - 1) = true := beq_iff_eq.2 (by omega)
        have dl := decide_eq_true kl
        have Hdl := hide dl
        clear kl dl
        by_cases k3 : s.kind = 3
        · have e3 : (s.kind == 3) = true := beq_iff_eq.2 k3
          have d3 := decide_eq_true k3
          have Hd3 := hide d3
          clear k3 d3
          cases hv : stmtI s
          · have Hno := hide (unhide Hno0 (by rw [unhide HS, hv]; rfl))
            have Hv := hide hv
            clear hv
            go_wp2_with (go_at_call 104; refine (validStmt_agg s _ hsz).mono ?_; rintro e w2 ⟨rfl, hb2⟩; rw [unhide Hv]; have R2 := R1.after hb2 (Nat.le_refl _); obtain ⟨q0, q1, q2, q3, qf⟩ := row4' R2)
            go_ret
            exact ⟨ret_bool (by rw [unhide HD, unhide Hno]; rfl), B2.trans (hb2.mono B2.size)⟩
          · have HY := hide (unhide HN (by rw [unhide HS, hv, unhide Hd3, unhide Hdl]; rfl))
            have Hv := hide hv
            clear hv
            go_wp2_with (go_at_call 104; refine (validStmt_agg s _ hsz).mono ?_; rintro e w2 ⟨rfl, hb2⟩; rw [unhide Hv]; have R2 := R1.after hb2 (Nat.le_refl _); obtain ⟨q0, q1, q2, q3, qf⟩ := row4' R2)
            go_roundw
            case rel => exact ⟨k + 1, unhide Hlt, by go_num, B2.trans (hb2.mono B2.size), unhide HY⟩
            case measure => have := unhide Hlt; simp [intOf]; omega
        · have e3 : (s.kind == 3) = false := beq_eq_false_iff_ne.2 k3
          have d3 := decide_eq_false k3
          have Hd3 := hide d3
          clear k3 d3
          cases hv : stmtI s
          · have Hno := hide (unhide Hno0 (by rw [unhide HS, hv]; rfl))
            have Hv := hide hv
            clear hv
            go_wp2_with (go_at_call 104; refine (validStmt_agg s _ hsz).mono ?_; rintro e w2 ⟨rfl, hb2⟩; rw [unhide Hv]; have R2 := R1.after hb2 (Nat.le_refl _); obtain ⟨q0, q1, q2, q3, qf⟩ := row4' R2)
            go_ret
            exact ⟨ret_bool (by rw [unhide HD, unhide Hno]; rfl), B2.trans (hb2.mono B2.size)⟩
          · have Hno := hide (unhide Hno0 (by rw [unhide HS, hv, unhide Hd3, unhide Hdl]; rfl))
            have Hv := hide hv
            clear hv
            go_wp2_with (go_at_call 104; refine (validStmt_agg s _ hsz).mono ?_; rintro e w2 ⟨rfl, hb2⟩; rw [unhide Hv]; have R2 := R1.after hb2 (Nat.le_refl _); obtain ⟨q0, q1, q2, q3, qf⟩ := row4' R2)
            go_ret
            exact ⟨ret_bool (by rw [unhide HD, unhide Hno]; rfl), B2.trans (hb2.mono B2.size)⟩
      · have el : ((k : Int) == (n : Int) - 1) = false := beq_eq_false_iff_ne.2 (by omega)
        have dl := decide_eq_false kl
        have Hdl := hide dl
        clear kl dl
        by_cases k3 : s.kind = 3
        · have e3 : (s.kind == 3) = true := beq_iff_eq.2 k3
          have d3 := decide_eq_true k3
          have Hd3 := hide d3
          clear k3 d3
          cases hv : stmtI s
          · have Hno := hide (unhide Hno0 (by rw [unhide HS, hv]; rfl))
            have Hv := hide hv
            clear hv
            go_wp2_with (go_at_call 104; refine (validStmt_agg s _ hsz).mono ?_; rintro e w2 ⟨rfl, hb2⟩; rw [unhide Hv]; have R2 := R1.after hb2 (Nat.le_refl _); obtain ⟨q0, q1, q2, q3, qf⟩ := row4' R2)
            go_ret
            exact ⟨ret_bool (by rw [unhide HD, unhide Hno]; rfl), B2.trans (hb2.mono B2.size)⟩
          · have Hno := hide (unhide Hno0 (by rw [unhide HS, hv, unhide Hd3, unhide Hdl]; rfl))
            have Hv := hide hv
            clear hv
            go_wp2_with (go_at_call 104; refine (validStmt_agg s _ hsz).mono ?_; rintro e w2 ⟨rfl, hb2⟩; rw [unhide Hv]; have R2 := R1.after hb2 (Nat.le_refl _); obtain ⟨q0, q1, q2, q3, qf⟩ := row4' R2)
            go_ret
            exact ⟨ret_bool (by rw [unhide HD, unhide Hno]; rfl), B2.trans (hb2.mono B2.size)⟩
        · have e3 : (s.kind == 3) = false := beq_eq_false_iff_ne.2 k3
          have d3 := decide_eq_false k3
          have Hd3 := hide d3
          clear k3 d3
          cases hv : stmtI s
          · have Hno := hide (unhide Hno0 (by rw [unhide HS, hv]; rfl))
            have Hv := hide hv
            clear hv
            go_wp2_with (go_at_call 104; refine (validStmt_agg s _ hsz).mono ?_; rintro e w2 ⟨rfl, hb2⟩; rw [unhide Hv]; have R2 := R1.after hb2 (Nat.le_refl _); obtain ⟨q0, q1, q2, q3, qf⟩ := row4' R2)
            go_ret
            exact ⟨ret_bool (by rw [unhide HD, unhide Hno]; rfl), B2.trans (hb2.mono B2.size)⟩
          · have HY := hide (unhide HN (by rw [unhide HS, hv, unhide Hd3, unhide Hdl]; rfl))
            have Hv := hide hv
            clear hv
            go_wp2_with (go_at_call 104; refine (validStmt_agg s _ hsz).mono ?_; rintro e w2 ⟨rfl, hb2⟩; rw [unhide Hv]; have R2 := R1.after hb2 (Nat.le_refl _); obtain ⟨q0, q1, q2, q3, qf⟩ := row4' R2)
            go_roundw
            case rel => exact ⟨k + 1, unhide Hlt, by go_num, B2.trans (hb2.mono B2.size), unhide HY⟩
            case measure => have := unhide Hlt; simp [intOf]; omega
    · have e : k = n := by omega
      subst e
      have Hall := hide (show stmtsI L = true from (stmtsI_iff L).2 (fun j hj => unhide Ha j hj (by have := unhide HL; omega)))
      go_wp2
      go_ret
      exact ⟨ret_bool (by rw [unhide HD, unhide Hall]; rfl), B1⟩

end Go.Proofs.YtddpcehgopeklaaGreatDoor

namespace Go.Proofs.YtddpcehgopeklaaGreatDoor
open Go.RowKit
set_option linter.unusedVariables false

theorem infoI : (Tryz.prog.info? 3).map (fun i => (i.zero, i.size, i.bytes)) = some (some (.int .i64 0), 1, 8) := by kernel_rfl

def intsV (L : List Int) : List Value := L.map (Value.int .i64)

theorem one_cell (w : World) (v : Value) (t : TypeId) (b : Nat) (hb : b = w.heap.size) : ∀ j u, ([v] : List Value)[j]? = some u → (w.alloc (.cells #[v] t)).cell? ((⟨b, 0, none⟩ : Addr).add j) = some u := fun j u h => by
  subst hb
  have hj : j = 0 := by
    have := (List.getElem?_eq_some_iff.1 h).1
    simp at this
    exact this
  subst hj
  rw [← h]
  simp [Addr.add]

theorem asked_succ (L : List St) (k : Nat) (h : k < L.length) : (L.take (k + 1)).flatMap askedOf = (L.take k).flatMap askedOf ++ askedOf L[k] := by
  rw [List.take_succ_eq_append_getElem h, List.flatMap_append]
  simp

theorem asked_len : ∀ (L : List St), (L.flatMap askedOf).length ≤ 2 * L.length
  | [] => by simp
  | s :: r => by
    have := asked_len r
    have h1 : (askedOf s).length ≤ 2 := by unfold askedOf; split <;> split <;> simp
    rw [List.flatMap_cons, List.length_append, List.length_cons]
    omega

theorem Row.grown {w w' : World} {b : Nat} {cs : Array Value} {t : TypeId} {row : Option Nat} (h : Row w b cs t) (hg : w.grownBy w' row) (hne : some b = row → False) : Row w' b cs t := ⟨(hg.block b h.lt hne).trans h.out⟩

set_option maxRecDepth 100000 in
set_option maxHeartbeats 3200000 in
theorem topsAsked_any (a : Option Addr) (n c : Nat) (L : List St) (w : World) (h : Sts w a n c L) :
    Calls Tryz.prog 88 #[.slice a n c] w fun e w' => ∃ v, e = .returned v ∧ w'.ownsRow w.heap.size 3 1 v (L.flatMap askedOf).length (intsV (L.flatMap askedOf)) ∧ Below w.heap.size w w' := by
  have hn := h.small
  have hl := h.len
  have HL := hide hl
  clear hl
  obtain ⟨i, hi, hz0, hz1, hz2⟩ := info_parts infoI
  go_enter Tryz.func88, Tryz.ntmps88
  go_wp2_with fail
  go_loopw [3, 8] (fun v i wr => ∃ k : Nat, k ≤ n ∧ i = .int .i64 k ∧ wr.ownsRow w.heap.size 3 1 v ((L.take k).flatMap askedOf).length (intsV ((L.take k).flatMap askedOf)) ∧ Below w.heap.size w wr) (fun _ i _ => n - (intOf i).toNat)
  case atStart => exact ⟨0, Nat.zero_le _, rfl, World.ownsRow_nil _ _ _ _, Below.refl _ _⟩
  case round =>
    obtain ⟨k, hk, rfl, O1, B1⟩ := hrel
    by_cases hlt : k < n
    · have ilt : (k : Int) < (n : Int) := by omega
      have hkl : k < L.length := by rw [unhide HL]; exact hlt
      obtain ⟨b, off, rfl, hb, c0, c1, c2, c3⟩ := (h.below B1 (Nat.le_refl _)).cells k hkl
      have HT := hide (asked_succ L k hkl)
      have hln := asked_len (L.take k)
      rw [List.length_take] at hln
      have Hlt := hide hlt
      generalize L[k] = s at c0 c1 c2 c3 HT
      generalize (L.take k).flatMap askedOf = A at O1 hln HT
      have hA : A.length ≤ 2 * 1048576 := by omega
      have R2 := Row.new wr #[.int .i64 s.kind, .string s.name, .int .i64 s.cond, .int .i64 s.grant] 77
      have B2 := B1.alloc B1.size (.cells #[.int .i64 s.kind, .string s.name, .int .i64 s.cond, .int .i64 s.grant] 77)
      have O2 := O1.alloc (.cells #[.int .i64 s.kind, .string s.name, .int .i64 s.cond, .int .i64 s.grant] 77)
      have z2 : (wr.alloc (.cells #[.int .i64 s.kind, .string s.name, .int .i64 s.cond, .int .i64 s.grant] 77)).heap.size = wr.heap.size + 1 := by simp
      have zb := B1.size
      clear hln
      by_cases k3 : s.kind = 3
      · have e3 : (s.kind != 3) = false := by rw [k3]; rfl
        by_cases kg : s.grant = -1
        · have eg : (s.grant != -1) = false := by rw [kg]; rfl
          have HA := hide (show askedOf s = [] by rw [askedOf, if_neg (by omega), if_neg (by omega)]; rfl)
          clear k3 kg
          go_wp2_with fail
          go_roundw
          case rel => exact ⟨k + 1, unhide Hlt, by go_num, by rw [unhide HT, unhide HA, List.append_nil]; exact O2, B2⟩
          case measure => have := unhide Hlt; simp [intOf]; omega
        · have eg : (s.grant != -1) = true := bne_iff_ne.2 kg
          have HA := hide (show askedOf s = [s.grant] by rw [askedOf, if_neg (by omega), if_pos kg]; rfl)
          clear k3 kg
          go_wp2_with (at_builtin; refine wpList_append_own _ rfl _ _ 29 rfl w.heap.size 3 i (.int .i64 0) 1 8 Tryz.underlying29 hi hz0 hz1 hz2 rfl (by decide) _ _ _ rfl (World.ownsRow.alloc O2 _) ⟨wr.heap.size + 1, 0, none⟩ 1 1 [.int .i64 s.grant] rfl rfl ?c1 ?c2 ?c3 ?c4 ?c5 ?_)
          case c1 => exact one_cell _ _ _ _ (by simp)
          case c2 => intro u hu; simp at hu; subst hu; rfl
          case c3 => skip; unfold maxLen; omega
          case c4 => skip; omega
          case c5 => simp; omega
          intro v' w3 O3 hgrow _
          have B3 := (B2.alloc (by omega) (.cells #[.int .i64 s.grant] 3)).grown hgrow (by simp; omega) (fun q hq => (O2.lt q hq).1)
          skip
          clear hgrow
          go_wp2_with fail
          go_roundw
          case rel => exact ⟨k + 1, unhide Hlt, by go_num, by rw [unhide HT, unhide HA, intsV, List.map_append, List.length_append]; exact O3, B3⟩
          case measure => have := unhide Hlt; simp [intOf]; omega
      · have e3 : (s.kind != 3) = true := bne_iff_ne.2 k3
        by_cases kg : s.grant = -1
        · have eg : (s.grant != -1) = false := by rw [kg]; rfl
          have HA := hide (show askedOf s = [s.cond] by rw [askedOf, if_pos k3, if_neg (by omega)]; rfl)
          clear k3 kg
          go_wp2_with (at_builtin; refine wpList_append_own _ rfl _ _ 29 rfl w.heap.size 3 i (.int .i64 0) 1 8 Tryz.underlying29 hi hz0 hz1 hz2 rfl (by decide) _ _ _ rfl (World.ownsRow.alloc O2 _) ⟨wr.heap.size + 1, 0, none⟩ 1 1 [.int .i64 s.cond] rfl rfl ?c1 ?c2 ?c3 ?c4 ?c5 ?_)
          case c1 => exact one_cell _ _ _ _ (by simp)
          case c2 => intro u hu; simp at hu; subst hu; rfl
          case c3 => skip; unfold maxLen; omega
          case c4 => skip; omega
          case c5 => simp; omega
          intro v' w3 O3 hgrow _
          have B3 := (B2.alloc (by omega) (.cells #[.int .i64 s.cond] 3)).grown hgrow (by simp; omega) (fun q hq => (O2.lt q hq).1)
          have R3 := (R2.alloc (.cells #[.int .i64 s.cond] 3)).grown hgrow (fun e => by have := (O1.lt _ e.symm).2; omega)
          have zw := B3.size
          obtain ⟨q0, q1, q2, q3, qf⟩ := row4' R3
          clear hgrow
          go_wp2_with fail
          go_roundw
          case rel => exact ⟨k + 1, unhide Hlt, by go_num, by rw [unhide HT, unhide HA, intsV, List.map_append, List.length_append]; exact O3, B3⟩
          case measure => have := unhide Hlt; simp [intOf]; omega
        · have eg : (s.grant != -1) = true := bne_iff_ne.2 kg
          have HA := hide (show askedOf s = [s.cond, s.grant] by rw [askedOf, if_pos k3, if_pos kg]; rfl)
          clear k3 kg
          go_wp2_with (at_builtin; refine wpList_append_own _ rfl _ _ 29 rfl w.heap.size 3 i (.int .i64 0) 1 8 Tryz.underlying29 hi hz0 hz1 hz2 rfl (by decide) _ _ _ rfl (World.ownsRow.alloc O2 _) ⟨wr.heap.size + 1, 0, none⟩ 1 1 [.int .i64 s.cond] rfl rfl ?c1 ?c2 ?c3 ?c4 ?c5 ?_)
          case c1 => exact one_cell _ _ _ _ (by simp)
          case c2 => intro u hu; simp at hu; subst hu; rfl
          case c3 => skip; unfold maxLen; omega
          case c4 => skip; omega
          case c5 => simp; omega
          intro v' w3 O3 hgrow _
          have B3 := (B2.alloc (by omega) (.cells #[.int .i64 s.cond] 3)).grown hgrow (by simp; omega) (fun q hq => (O2.lt q hq).1)
          have R3 := (R2.alloc (.cells #[.int .i64 s.cond] 3)).grown hgrow (fun e => by have := (O1.lt _ e.symm).2; omega)
          have zw := B3.size
          obtain ⟨q0, q1, q2, q3, qf⟩ := row4' R3
          obtain ⟨x3, cx3, hv3⟩ := owns_form O3
          subst hv3
          clear hgrow
          go_wp2_with (at_builtin; refine wpList_append_own _ rfl _ _ 29 rfl w.heap.size 3 i (.int .i64 0) 1 8 Tryz.underlying29 hi hz0 hz1 hz2 rfl (by decide) _ _ _ rfl (World.ownsRow.alloc O3 _) ⟨w3.heap.size, 0, none⟩ 1 1 [.int .i64 s.grant] rfl rfl ?c1 ?c2 ?c3 ?c4 ?c5 ?_)
          case c1 => exact one_cell _ _ _ _ (by simp)
          case c2 => intro u hu; simp at hu; subst hu; rfl
          case c3 => skip; unfold maxLen; omega
          case c4 => skip; omega
          case c5 => simp; omega
          intro v'' w4 O4 hgrow _
          have B4 := (B3.alloc (by omega) (.cells #[.int .i64 s.grant] 3)).grown hgrow (by simp; omega) (fun q hq => (O3.lt q hq).1)
          skip
          clear hgrow
          go_wp2_with fail
          go_roundw
          case rel => exact ⟨k + 1, unhide Hlt, by go_num, by rw [unhide HT, unhide HA, intsV, List.map_append, List.length_append]; simpa [intsV] using O4, B4⟩
          case measure => have := unhide Hlt; simp [intOf]; omega
    · have e : k = n := by omega
      subst e
      have e2 : L.take k = L := List.take_of_length_le (by rw [unhide HL]; exact Nat.le_refl _)
      rw [e2] at O1
      obtain ⟨x, cx, hv⟩ := owns_form O1
      subst hv
      go_wp2
      go_ret
      exact ⟨_, rfl, O1, B1⟩

end Go.Proofs.YtddpcehgopeklaaGreatDoor

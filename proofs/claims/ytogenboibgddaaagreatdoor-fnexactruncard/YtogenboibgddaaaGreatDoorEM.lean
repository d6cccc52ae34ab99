/-
  Codes in memory; the program's and the model's look at their parts. Own work.
-/
import Derived.Test.YtogenboibgddaaaGreatDoorMXAC
import Derived.Test.YtogenboibgddaaaGreatDoorMXAD
namespace Go.Proofs.YtogenboibgddaaaGreatDoor
open Go.RowKit
set_option linter.unusedVariables false

/-- One value, at a place. -/
def VlAt (w : World) (b o : Nat) (x : Vl) : Prop := ∃ an nn cn, w.cell? ⟨b, o, none⟩ = some (.int .i64 x.kind) ∧ w.cell? ⟨b, o + 1, none⟩ = some (.int .i64 x.num) ∧ w.cell? ⟨b, o + 2, none⟩ = some (.string x.text) ∧ w.cell? ⟨b, o + 3, none⟩ = some (.slice an nn cn) ∧ Strs w an nn cn x.names

structure Vls (w : World) (a : Option Addr) (n c : Nat) (L : List Vl) : Prop where
  len : L.length = n
  small : n ≤ 1048576
  sizes : ∀ x ∈ L, x.text.size ≤ 1048576
  cells : ∀ j, (h : j < L.length) → ∃ b off, a = some ⟨b, off, none⟩ ∧ b < w.heap.size ∧ VlAt w b (off + j * 4) L[j]

structure Iss (w : World) (a : Option Addr) (n c : Nat) (L : List Is1) : Prop where
  len : L.length = n
  small : n ≤ 1048576
  cells : ∀ j, (h : j < L.length) → ∃ b off, a = some ⟨b, off, none⟩ ∧ b < w.heap.size ∧ w.cell? ⟨b, off + j * 2, none⟩ = some (.int .i64 L[j].op) ∧ w.cell? ⟨b, off + j * 2 + 1, none⟩ = some (.int .i64 L[j].arg)

theorem VlAt.below {w w' : World} {B b o : Nat} {x : Vl} (h : VlAt w b o x) (hl : b < w.heap.size) (hb : Below B w w') (hB : w.heap.size ≤ B) : VlAt w' b o x := by
  obtain ⟨an, nn, cn, c0, c1, c2, c3, hN⟩ := h
  have hl' : b < B := by omega
  exact ⟨an, nn, cn, (hb.cell (p := ⟨b, o, none⟩) hl').trans c0, (hb.cell (p := ⟨b, o + 1, none⟩) hl').trans c1, (hb.cell (p := ⟨b, o + 2, none⟩) hl').trans c2, (hb.cell (p := ⟨b, o + 3, none⟩) hl').trans c3, hN.below hb hB⟩

theorem Vls.below {w w' : World} {B : Nat} {a : Option Addr} {n c : Nat} {L : List Vl} (h : Vls w a n c L) (hb : Below B w w') (hB : w.heap.size ≤ B) : Vls w' a n c L :=
  ⟨h.len, h.small, h.sizes, fun j hj => by
    obtain ⟨b, off, ha, hl, hc⟩ := h.cells j hj
    exact ⟨b, off, ha, Nat.lt_of_lt_of_le hl hb.size, hc.below hl hb hB⟩⟩

theorem Iss.below {w w' : World} {B : Nat} {a : Option Addr} {n c : Nat} {L : List Is1} (h : Iss w a n c L) (hb : Below B w w') (hB : w.heap.size ≤ B) : Iss w' a n c L :=
  ⟨h.len, h.small, fun j hj => by
    obtain ⟨b, off, ha, hl, c0, c1⟩ := h.cells j hj
    have hl' : b < B := by omega
    exact ⟨b, off, ha, Nat.lt_of_lt_of_le hl hb.size, (hb.cell (p := ⟨b, off + j * 2, none⟩) hl').trans c0, (hb.cell (p := ⟨b, off + j * 2 + 1, none⟩) hl').trans c1⟩⟩

theorem tlE (s : ByteArray) : s.toList = [] ↔ s.size = 0 := by
  rw [ByteArray.toList_eq]
  constructor
  · intro h
    have : s.data.toList.length = 0 := by rw [h]; rfl
    exact this
  · intro h
    exact List.eq_nil_of_length_eq_zero h

theorem isEf {s : ByteArray} (h : s.size ≠ 0) : s.toList.isEmpty = false := by rw [Bool.eq_false_iff]; intro k; exact h ((tlE s).1 (List.isEmpty_iff.1 k))

set_option maxHeartbeats 800000 in
theorem l2quo_any (s : ByteArray) (w : World) (hs : s.size ≤ 1048576) :
    Calls Tryz.prog 94 #[.string s] w fun e w' => e = .returned (.bool (quoB s)) ∧ w' = w := by
  by_cases h0 : s.size = 0
  · have e : s = ⟨#[]⟩ := bytes_ext (List.eq_nil_of_length_eq_zero h0)
    subst e
    go_enter Tryz.func94, Tryz.ntmps94
    go_wp2
    go_ret
    exact ⟨rfl, rfl⟩
  · have hne := isEf h0
    have Hq := hide (show quoB s = vnB s by rw [quoB, vnB, show decide (1 ≤ s.size ∧ s.size ≤ 32) = decide (s.size ≤ 32) by rw [decide_eq_decide]; omega])
    go_enter Tryz.func94, Tryz.ntmps94
    go_wp2_with (go_at_call 43; refine (sValidName_any _ _ (by unfold maxLen; omega)).mono ?_; rintro e w' ⟨rfl, hw⟩; rw [hw]; clear hw)
    go_ret
    exact ⟨ret_bool (unhide Hq).symm, rfl⟩

theorem rowE {w : World} {b : Nat} {v0 v1 v2 v3 : Value} {t : TypeId} (R : Row w b #[v0, v1, v2, v3] t) : w.cell? ⟨b, 0, none⟩ = some v0 ∧ w.cell? ⟨b, 1, none⟩ = some v1 ∧ w.cell? ⟨b, 2, none⟩ = some v2 ∧ w.cell? ⟨b, 3, none⟩ = some v3 :=
  ⟨by simpa using R.cell 0, by simpa using R.cell 1, by simpa using R.cell 2, by simpa using R.cell 3⟩

set_option maxHeartbeats 800000 in
theorem l5hasArg_any (op : Int) (w : World) :
    Calls Tryz.prog 62 #[.int .i64 op] w fun e w' => e = .returned (.bool (argB op)) ∧ w' = w := by
  go_enter Tryz.func62, Tryz.ntmps62
  go_wp2
  all_goals
    go_ret
    refine ⟨ret_bool ?_, rfl⟩
    rw [argB]
    rw [Bool.eq_iff_iff, decide_eq_true_iff]
    simp
    try omega

set_option maxHeartbeats 800000 in
theorem validIns_any (i : Is1) (w : World) :
    Calls Tryz.prog 78 #[.agg #[.int .i64 i.op, .int .i64 i.arg]] w fun e w' => e = .returned (.bool (insB i)) ∧ Below w.heap.size w w' := by
  have B0 := (Below.refl w.heap.size w).alloc (Nat.le_refl _) (.cells #[.int .i64 i.op, .int .i64 i.arg] 87)
  obtain ⟨op, arg⟩ := i
  have HF := hide (show insB ⟨op, arg⟩ = (decide (1 ≤ op ∧ op ≤ 25) && (if argB op then decide (0 ≤ arg ∧ arg ≤ 65535) else decide (arg = 0))) from rfl)
  have HA := hide (show argB op = decide ((1 ≤ op ∧ op ≤ 4) ∨ op = 22 ∨ op = 23) from rfl)
  generalize insB ⟨op, arg⟩ = FB at HF ⊢
  simp only at B0 ⊢
  by_cases ha : (1 ≤ op ∧ op ≤ 4) ∨ op = 22 ∨ op = 23
  · have : op = 1 ∨ op = 2 ∨ op = 3 ∨ op = 4 ∨ op = 22 ∨ op = 23 := by omega
    rcases this with e | e | e | e | e | e <;> subst e <;> (go_enter Tryz.func78, Tryz.ntmps78; go_wp2) <;> (go_ret; refine ⟨ret_bool ?_, B0⟩; rw [unhide HF, unhide HA]; clear HF HA B0; simp <;> omega)
  · have HA2 := hide (show argB op = false by rw [unhide HA, decide_eq_false ha])
    have e1 : (op == 1) = false := beq_eq_false_iff_ne.2 (by omega)
    have e2 : (op == 2) = false := beq_eq_false_iff_ne.2 (by omega)
    have e3 : (op == 3) = false := beq_eq_false_iff_ne.2 (by omega)
    have e4 : (op == 4) = false := beq_eq_false_iff_ne.2 (by omega)
    have e22 : (op == 22) = false := beq_eq_false_iff_ne.2 (by omega)
    have e23 : (op == 23) = false := beq_eq_false_iff_ne.2 (by omega)
    clear ha
    go_enter Tryz.func78, Tryz.ntmps78
    go_wp2
    all_goals
      go_ret
      refine ⟨ret_bool ?_, B0⟩
      rw [unhide HF, unhide HA2]
      first
        | (rw [decide_eq_true (by omega)]; rfl)
        | (rw [decide_eq_false (by omega)]; rfl)

set_option maxRecDepth 100000 in
set_option maxHeartbeats 3200000 in
theorem validValue_any (x : Vl) (an : Option Addr) (nn cn : Nat) (w : World) (hN : Strs w an nn cn x.names) (hs : x.text.size ≤ 1048576) :
    Calls Tryz.prog 77 #[.agg #[.int .i64 x.kind, .int .i64 x.num, .string x.text, .slice an nn cn]] w fun e w' => e = .returned (.bool (valB x)) ∧ Below w.heap.size w w' := by
  have hsm := hN.cap
  have hsc := hN.small
  unfold maxLen at hsc
  have HF := hide (show valB x = (if x.kind = 1 then decide (x.num = 0 ∨ x.num = 1) && decide (x.text.size = 0) && decide (nn = 0) else if x.kind = 2 then decide (x.text.size = 0) && decide (nn = 0) else if x.kind = 3 then quoB x.text && decide (x.num = 0) && decide (nn = 0) else if x.kind = 4 then setB x.names && decide (x.num = 0) && decide (x.text.size = 0) else false) by rw [valB, ← hN.len])
  generalize valB x = FB at HF ⊢
  obtain ⟨kind, num, text, names⟩ := x
  simp only at HF hN hs ⊢
  have B0 := (Below.refl w.heap.size w).alloc (Nat.le_refl _) (.cells #[.int .i64 kind, .int .i64 num, .string text, .slice an nn cn] 88)
  have R0 := Row.new w #[.int .i64 kind, .int .i64 num, .string text, .slice an nn cn] 88
  have N0 := hN.below B0 (Nat.le_refl _)
  have HT := hide hN
  clear hN
  obtain ⟨c0, c1, c2, c3⟩ := rowE R0
  go_enter Tryz.func77, Tryz.ntmps77
  go_wp2_with fail
  generalize w.alloc (.cells #[.int .i64 kind, .int .i64 num, .string text, .slice an nn cn] 88) = W at *
  go_region
  have R1 : Row W.drew w.heap.size #[.int .i64 kind, .int .i64 num, .string text, .slice an nn cn] 88 := ⟨R0.out⟩
  have B1 : Below w.heap.size w W.drew := B0.drew
  have N1 : Strs W.drew an nn cn names := ⟨N0.len, N0.cap, N0.small, N0.sizes, N0.cells⟩
  clear R0 B0 N0 c0 c1 c2 c3
  generalize W.drew = W1 at R1 B1 N1 ⊢
  obtain ⟨c0, c1, c2, c3⟩ := rowE R1
  by_cases o1 : kind = 1
  · subst o1
    have HF := hide ((unhide HF).trans (by rw [if_pos rfl]))
    go_wp2
    all_goals
      go_ret
      refine ⟨ret_bool ?_, (by first | exact B1 | exact (Below.refl w.heap.size w).alloc (Nat.le_refl _) _)⟩
      rw [unhide HF]
      have tl := tlE text
      have ti : text.toList.isEmpty = decide (text.size = 0) := by rw [Bool.eq_iff_iff, List.isEmpty_iff, decide_eq_true_iff]; exact tlE text
      have nb : ((nn : Int) == 0) = decide (nn = 0) := by rw [Bool.eq_iff_iff]; simp
      clear HF R1 B1 N1 HT
      simp_all
      try omega
  by_cases o2 : kind = 2
  · subst o2
    have HF := hide ((unhide HF).trans (by rw [if_neg (by omega), if_pos rfl]))
    go_wp2
    all_goals
      go_ret
      refine ⟨ret_bool ?_, (by first | exact B1 | exact (Below.refl w.heap.size w).alloc (Nat.le_refl _) _)⟩
      rw [unhide HF]
      have tl := tlE text
      have ti : text.toList.isEmpty = decide (text.size = 0) := by rw [Bool.eq_iff_iff, List.isEmpty_iff, decide_eq_true_iff]; exact tlE text
      have nb : ((nn : Int) == 0) = decide (nn = 0) := by rw [Bool.eq_iff_iff]; simp
      clear HF R1 B1 N1 HT
      simp_all
      try omega
  by_cases o3 : kind = 3
  · subst o3
    have HF := hide ((unhide HF).trans (by rw [if_neg (by omega), if_neg (by omega), if_pos rfl]))
    cases hq : quoB text
    · have Hq := hide hq
      clear hq
      go_wp2_with (go_at_call 84; refine (nameBytes_any _ _ (by unfold maxLen; omega)).mono ?_; rintro e w2 ⟨rfl, hw⟩; rw [show (decide (text.size ≤ 32) && allNm text.data.toList) = quoB text from rfl]; rw [unhide Hq, hw]; clear hw)
      all_goals
        go_ret
        refine ⟨ret_bool ?_, (by first | exact B1 | exact (Below.refl w.heap.size w).alloc (Nat.le_refl _) _)⟩
        rw [unhide HF]
        have hq := unhide Hq
        have tl := tlE text
        have ti : text.toList.isEmpty = decide (text.size = 0) := by rw [Bool.eq_iff_iff, List.isEmpty_iff, decide_eq_true_iff]; exact tlE text
        have nb : ((nn : Int) == 0) = decide (nn = 0) := by rw [Bool.eq_iff_iff]; simp
        clear HF R1 B1 N1 HT
        simp_all
        try omega
    · have Hq := hide hq
      clear hq
      go_wp2_with (go_at_call 84; refine (nameBytes_any _ _ (by unfold maxLen; omega)).mono ?_; rintro e w2 ⟨rfl, hw⟩; rw [show (decide (text.size ≤ 32) && allNm text.data.toList) = quoB text from rfl]; rw [unhide Hq, hw]; clear hw)
      all_goals
        go_ret
        refine ⟨ret_bool ?_, (by first | exact B1 | exact (Below.refl w.heap.size w).alloc (Nat.le_refl _) _)⟩
        rw [unhide HF]
        have hq := unhide Hq
        have tl := tlE text
        have ti : text.toList.isEmpty = decide (text.size = 0) := by rw [Bool.eq_iff_iff, List.isEmpty_iff, decide_eq_true_iff]; exact tlE text
        have nb : ((nn : Int) == 0) = decide (nn = 0) := by rw [Bool.eq_iff_iff]; simp
        clear HF R1 B1 N1 HT
        simp_all
        try omega
  by_cases o4 : kind = 4
  · subst o4
    have HF := hide ((unhide HF).trans (by rw [if_neg (by omega), if_neg (by omega), if_neg (by omega), if_pos rfl]))
    cases hq : setB names
    · have Hq := hide hq
      clear hq
      have Hk := hide (And.intro R1 B1)
      go_wp2_with (go_at_call 54; refine (iIsSet_any _ _ _ _ _ N1).mono ?_; rintro e w2 ⟨rfl, hb2⟩; rw [unhide Hq]; have B2 := (unhide Hk).2.trans (hb2.mono (unhide Hk).2.size); obtain ⟨d0, d1, d2, d3⟩ := rowE ((unhide Hk).1.after hb2 (Nat.le_refl _)))
      all_goals
        go_ret
        refine ⟨ret_bool ?_, by first | exact B2 | exact B1 | exact (Below.refl w.heap.size w).alloc (Nat.le_refl _) _⟩
        rw [unhide HF]
        have hq := unhide Hq
        have tl := tlE text
        have ti : text.toList.isEmpty = decide (text.size = 0) := by rw [Bool.eq_iff_iff, List.isEmpty_iff, decide_eq_true_iff]; exact tlE text
        have nb : ((nn : Int) == 0) = decide (nn = 0) := by rw [Bool.eq_iff_iff]; simp
        clear HF R1 B1 N1 HT Hk
        simp_all
        try omega
    · have Hq := hide hq
      clear hq
      have Hk := hide (And.intro R1 B1)
      go_wp2_with (go_at_call 54; refine (iIsSet_any _ _ _ _ _ N1).mono ?_; rintro e w2 ⟨rfl, hb2⟩; rw [unhide Hq]; have B2 := (unhide Hk).2.trans (hb2.mono (unhide Hk).2.size); obtain ⟨d0, d1, d2, d3⟩ := rowE ((unhide Hk).1.after hb2 (Nat.le_refl _)))
      all_goals
        go_ret
        refine ⟨ret_bool ?_, by first | exact B2 | exact B1 | exact (Below.refl w.heap.size w).alloc (Nat.le_refl _) _⟩
        rw [unhide HF]
        have hq := unhide Hq
        have tl := tlE text
        have ti : text.toList.isEmpty = decide (text.size = 0) := by rw [Bool.eq_iff_iff, List.isEmpty_iff, decide_eq_true_iff]; exact tlE text
        have nb : ((nn : Int) == 0) = decide (nn = 0) := by rw [Bool.eq_iff_iff]; simp
        clear HF R1 B1 N1 HT Hk
        simp_all
        try omega
  have HX := hide ((unhide HF).trans (by rw [if_neg o1, if_neg o2, if_neg o3, if_neg o4]))
  have e1 := beq_eq_false_iff_ne.2 o1
  have e2 := beq_eq_false_iff_ne.2 o2
  have e3 := beq_eq_false_iff_ne.2 o3
  have e4 := beq_eq_false_iff_ne.2 o4
  clear HF
  go_wp2
  all_goals
    go_ret
    exact ⟨ret_bool (unhide HX).symm, by first | exact B1 | exact (Below.refl w.heap.size w).alloc (Nat.le_refl _) _⟩

set_option maxRecDepth 100000 in
set_option maxHeartbeats 3200000 in
theorem l5value_any (x : Vl) (an : Option Addr) (nn cn : Nat) (w : World) (hN : Strs w an nn cn x.names) (hs : x.text.size ≤ 1048576) :
    Calls Tryz.prog 61 #[.agg #[.int .i64 x.kind, .int .i64 x.num, .string x.text, .slice an nn cn]] w fun e w' => e = .returned (.bool (valB x)) ∧ Below w.heap.size w w' := by
  have hsm := hN.cap
  have hsc := hN.small
  unfold maxLen at hsc
  have HF := hide (show valB x = (if x.kind = 1 then decide (x.num = 0 ∨ x.num = 1) && decide (x.text.size = 0) && decide (nn = 0) else if x.kind = 2 then decide (x.text.size = 0) && decide (nn = 0) else if x.kind = 3 then quoB x.text && decide (x.num = 0) && decide (nn = 0) else if x.kind = 4 then setB x.names && decide (x.num = 0) && decide (x.text.size = 0) else false) by rw [valB, ← hN.len])
  generalize valB x = FB at HF ⊢
  obtain ⟨kind, num, text, names⟩ := x
  simp only at HF hN hs ⊢
  have B0 := (Below.refl w.heap.size w).alloc (Nat.le_refl _) (.cells #[.int .i64 kind, .int .i64 num, .string text, .slice an nn cn] 88)
  have R0 := Row.new w #[.int .i64 kind, .int .i64 num, .string text, .slice an nn cn] 88
  have N0 := hN.below B0 (Nat.le_refl _)
  have HT := hide hN
  clear hN
  go_enter Tryz.func61, Tryz.ntmps61
  have R1 := R0
  have B1 := B0
  have N1 := N0
  clear R0 B0 N0
  by_cases o1 : kind = 1
  · subst o1
    have HF := hide ((unhide HF).trans (by rw [if_pos rfl]))
    go_wp2
    all_goals
      go_ret
      refine ⟨ret_bool ?_, (by first | exact B1 | exact (Below.refl w.heap.size w).alloc (Nat.le_refl _) _)⟩
      rw [unhide HF]
      have tl := tlE text
      have ti : text.toList.isEmpty = decide (text.size = 0) := by rw [Bool.eq_iff_iff, List.isEmpty_iff, decide_eq_true_iff]; exact tlE text
      have nb : ((nn : Int) == 0) = decide (nn = 0) := by rw [Bool.eq_iff_iff]; simp
      clear HF R1 B1 N1 HT
      simp_all
      try omega
  by_cases o2 : kind = 2
  · subst o2
    have HF := hide ((unhide HF).trans (by rw [if_neg (by omega), if_pos rfl]))
    go_wp2
    all_goals
      go_ret
      refine ⟨ret_bool ?_, (by first | exact B1 | exact (Below.refl w.heap.size w).alloc (Nat.le_refl _) _)⟩
      rw [unhide HF]
      have tl := tlE text
      have ti : text.toList.isEmpty = decide (text.size = 0) := by rw [Bool.eq_iff_iff, List.isEmpty_iff, decide_eq_true_iff]; exact tlE text
      have nb : ((nn : Int) == 0) = decide (nn = 0) := by rw [Bool.eq_iff_iff]; simp
      clear HF R1 B1 N1 HT
      simp_all
      try omega
  by_cases o3 : kind = 3
  · subst o3
    have HF := hide ((unhide HF).trans (by rw [if_neg (by omega), if_neg (by omega), if_pos rfl]))
    cases hq : quoB text
    · have Hq := hide hq
      clear hq
      go_wp2_with (go_at_call 94; refine (l2quo_any _ _ hs).mono ?_; rintro e w2 ⟨rfl, hw⟩; rw [unhide Hq, hw]; clear hw)
      all_goals
        go_ret
        refine ⟨ret_bool ?_, (by first | exact B1 | exact (Below.refl w.heap.size w).alloc (Nat.le_refl _) _)⟩
        rw [unhide HF]
        have hq := unhide Hq
        have tl := tlE text
        have ti : text.toList.isEmpty = decide (text.size = 0) := by rw [Bool.eq_iff_iff, List.isEmpty_iff, decide_eq_true_iff]; exact tlE text
        have nb : ((nn : Int) == 0) = decide (nn = 0) := by rw [Bool.eq_iff_iff]; simp
        clear HF R1 B1 N1 HT
        simp_all
        try omega
    · have Hq := hide hq
      clear hq
      go_wp2_with (go_at_call 94; refine (l2quo_any _ _ hs).mono ?_; rintro e w2 ⟨rfl, hw⟩; rw [unhide Hq, hw]; clear hw)
      all_goals
        go_ret
        refine ⟨ret_bool ?_, (by first | exact B1 | exact (Below.refl w.heap.size w).alloc (Nat.le_refl _) _)⟩
        rw [unhide HF]
        have hq := unhide Hq
        have tl := tlE text
        have ti : text.toList.isEmpty = decide (text.size = 0) := by rw [Bool.eq_iff_iff, List.isEmpty_iff, decide_eq_true_iff]; exact tlE text
        have nb : ((nn : Int) == 0) = decide (nn = 0) := by rw [Bool.eq_iff_iff]; simp
        clear HF R1 B1 N1 HT
        simp_all
        try omega
  by_cases o4 : kind = 4
  · subst o4
    have HF := hide ((unhide HF).trans (by rw [if_neg (by omega), if_neg (by omega), if_neg (by omega), if_pos rfl]))
    by_cases hn : num = 0
    · subst hn
      by_cases ht : text.size = 0
      · have et : text = ByteArray.empty := bytes_ext (List.eq_nil_of_length_eq_zero ht)
        subst et
        have HX := hide (show FB = setB names by rw [unhide HF]; simp)
        clear HF ht
        go_wp2_with (go_at_call 44; refine (sIsSet_any _ _ _ _ _ N1).mono ?_; rintro e w2 ⟨rfl, hw2⟩; rw [hw2]; clear hw2)
        go_ret
        exact ⟨ret_bool (unhide HX).symm, B1⟩
      · have et := isEf ht
        have HX := hide (show FB = false by rw [unhide HF, decide_eq_false ht, Bool.and_false])
        clear HF ht
        go_wp2
        go_ret
        exact ⟨ret_bool (unhide HX).symm, B1⟩
    · have en : (num == 0) = false := beq_eq_false_iff_ne.2 hn
      have HX := hide (show FB = false by rw [unhide HF, decide_eq_false hn]; simp)
      clear HF hn
      go_wp2
      go_ret
      exact ⟨ret_bool (unhide HX).symm, B1⟩
  have HX := hide ((unhide HF).trans (by rw [if_neg o1, if_neg o2, if_neg o3, if_neg o4]))
  have e1 := beq_eq_false_iff_ne.2 o1
  have e2 := beq_eq_false_iff_ne.2 o2
  have e3 := beq_eq_false_iff_ne.2 o3
  have e4 := beq_eq_false_iff_ne.2 o4
  clear HF
  go_wp2
  all_goals
    go_ret
    exact ⟨ret_bool (unhide HX).symm, by first | exact B1 | exact (Below.refl w.heap.size w).alloc (Nat.le_refl _) _⟩

end Go.Proofs.YtogenboibgddaaaGreatDoor

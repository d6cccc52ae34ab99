/-
  The model's decoder. Own work.
-/
import Derived.Test.YtmkoidbpkhiohaaKJ
import Derived.Test.YtmkoidbpkhiohaaEY3
namespace Go.Proofs.Ytmkoidbpkhiohaa
open Go.RowKit Go.Lib
set_option linter.unusedVariables false

theorem Mono.bodyS : ∀ s : Rs, s.2 = true → (bodyS s).2.2 = true := fun s hs => ((bodyAgree s).1 hs).2

/-- the decoder's answer, by the reader's -/
theorem decS_eq (L : List Int) : decS L = if (bodyS (takeS 3 (L, false)).2).2 = ([], false) ∧ encR (bodyS (takeS 3 (L, false)).2).1.pool (bodyS (takeS 3 (L, false)).2).1.slots (bodyS (takeS 3 (L, false)).2).1.ins ≠ [] ∧ encR (bodyS (takeS 3 (L, false)).2).1.pool (bodyS (takeS 3 (L, false)).2).1.slots (bodyS (takeS 3 (L, false)).2).1.ins = L then some (bodyS (takeS 3 (L, false)).2).1 else none := by
  unfold decS
  by_cases h3 : L.length < 3
  · have e : takeS 3 (L, false) = ([], [], true) := by unfold takeS; rw [if_pos h3]
    rw [e, if_neg (by omega), if_neg]
    rintro ⟨h, _⟩
    have := Mono.bodyS ([], true) rfl
    rw [h] at this; cases this
  · have e : takeS 3 (L, false) = (L.take 3, L.drop 3, false) := by unfold takeS; rw [if_neg h3]
    rw [e]
    have h3' : 3 ≤ L.length := by omega
    simp only [h3', true_and]

theorem okB.append {A B : List Int} (h : okB A) (k : okB B) : okB (A ++ B) := fun x hx => by
  rcases List.mem_append.1 hx with h' | h'
  · exact h x h'
  · exact k x h'

theorem okB_beB (x : Int) : ∀ w, okB (beB x w)
  | 0 => fun y hy => by cases hy
  | w + 1 => fun y hy => by
    rw [beB] at hy
    rcases List.mem_cons.1 hy with rfl | h
    · exact byteAt_range x w
    · exact okB_beB x w y h

theorem okB_strB (s : ByteArray) : okB (strB s) := fun x hx => by
  obtain ⟨b, _, rfl⟩ := List.mem_map.1 hx
  have := b.toNat_lt
  exact ⟨by omega, by omega⟩

theorem okB_flat {α : Type} {f : α → List Int} (h : ∀ x, okB (f x)) (l : List α) : okB (l.flatMap f) := fun y hy => by
  obtain ⟨x, _, hx⟩ := List.mem_flatMap.1 hy
  exact h x y hx

theorem okB_textB (s : ByteArray) : okB (textB s) := (okB_beB _ _).append (okB_strB s)

theorem okB_valE (v : Vl) : okB (valE v) := by
  rw [valE]
  refine (okB_beB _ _).append ?_
  split
  · exact okB_beB _ _
  split
  · exact okB_beB _ _
  split
  · exact okB_textB _
  split
  · exact (okB_beB _ _).append (okB_flat okB_textB _)
  · exact fun x hx => by cases hx

theorem okB_codeE (P : List Vl) (s : Int) (I : List Is1) : okB (codeE P s I) := by
  rw [codeE]
  have h0 : okB [80, 76, 49] := fun x hx => by
    simp at hx
    rcases hx with rfl | rfl | rfl <;> decide
  exact ((((h0.append (okB_beB _ _)).append (okB_flat okB_valE _)).append (okB_beB _ _)).append (okB_beB _ _)).append (okB_flat (fun i => (okB_beB _ _).append (okB_beB _ _)) _)

theorem okB_encR (P : List Vl) (s : Int) (I : List Is1) : okB (encR P s I) := by
  rw [encR]
  split
  · exact okB_codeE P s I
  · exact fun x hx => by cases hx

theorem bstr_inj {A B : List Int} (ha : okB A) (hb : okB B) (h : bstr A = bstr B) : A = B := by
  rw [← strB_bstr A ha, ← strB_bstr B hb, h]

theorem tl_inj {s t : ByteArray} (h : s.toList = t.toList) : s = t := by
  rw [ByteArray.toList_eq, ByteArray.toList_eq] at h
  cases s; cases t
  simp only [ByteArray.mk.injEq]
  exact Array.toList_inj.1 h

theorem conv_own {w : World} {base n c : Nat} {x : Option Addr} {R : List Int} (h : w.ownsRow base 5 1 (.slice x n c) n (bytesV R)) (hn : R.length = n) : (convert 22 9 (.slice x n c)).run Try.prog w = .ok (.string (bstr R)) w := by
  subst hn
  rcases h.2 with ⟨hv, h0⟩ | ⟨g, cap, cur, hv, _⟩
  · simp only [Value.slice.injEq] at hv
    obtain ⟨rfl, _, rfl⟩ := hv
    have hR : R = [] := List.eq_nil_of_length_eq_zero h0
    subst hR
    have := run_convert_bytes_nil (P := Try.prog) w 22 5 Try.underlying22 Try.underlying5 0 0 9 Try.underlying9
    exact this
  · simp only [Value.slice.injEq] at hv
    obtain ⟨rfl, _, rfl⟩ := hv
    refine run_convert_bytes_arg (P := Try.prog) w 22 5 Try.underlying22 Try.underlying5 g 0 R.length _ R rfl (fun i hi => ?_) 9 Try.underlying9
    rw [Nat.zero_add, h.cellAt i (by omega), bytesV, List.getElem?_map, List.getElem?_eq_getElem hi, List.getD, List.getElem?_eq_getElem hi]
    rfl

set_option maxRecDepth 100000 in
set_option maxHeartbeats 12800000 in
theorem sDecode_any (a : Option Addr) (n c : Nat) (L : List Int) (w : World) (h : Bys w w.heap.size a n c L) :
    Calls Try.prog 4 #[.slice a n c] w fun e w' => DcAns w (decS L) e w' := by
  obtain ⟨iv, hiv, hv0, hv1, hv2⟩ := info_parts infoV
  obtain ⟨ii, hii, hi0, hi1, hi2⟩ := info_parts infoIn
  obtain ⟨is, his, hs0, hs1, hs2⟩ := info_parts infoS
  have HX := hide (decS_eq L)
  have B0 := (Below.refl w.heap.size w).alloc (Nat.le_refl _) (.cells #[.slice none 0 0, .int .i64 0, .slice none 0 0] 26)
  have B1 := B0.alloc (by simp) (.cells #[.slice a n c, .bool false] 37)
  have RR := (Row.new w #[.slice none 0 0, .int .i64 0, .slice none 0 0] 26).alloc (.cells #[.slice a n c, .bool false] 37)
  have RG := Row.new (w.alloc (.cells #[.slice none 0 0, .int .i64 0, .slice none 0 0] 26)) #[.slice a n c, .bool false] 37
  simp only [World.size_alloc] at RG
  have hS : SRs ((w.alloc (.cells #[.slice none 0 0, .int .i64 0, .slice none 0 0] 26)).alloc (.cells #[.slice a n c, .bool false] 37)) (w.heap.size + 1) (L, false) := ⟨a, n, c, RG, (h.mono (by omega)).blocks (fun k hk hk2 => B1.block k hk2) B1.size⟩
  have hok0 : okB (takeS 3 (L, false)).2.1 := (takeS_ok 3 (L, false) h.ok).2
  have HT := hide (stake_any (w.heap.size + 1) (L, false) 3 _ hS (by omega))
  generalize (takeS 3 (L, false)) = r at HT HX hok0
  obtain ⟨t3, s1⟩ := r
  simp only at HX hok0
  go_enter Try.func4, Try.ntmps4
  go_wp2_with fail
  refine (unhide HT).mono ?_
  rintro e w1 ⟨a1, n1, c1, rfl, _, S1, T1⟩
  simp only at S1
  have RR1 := RR.touch' T1 (.inl (by omega))
  have z1 := T1.size
  simp only [World.size_alloc] at z1
  have BB1 := below_touch B1 T1 (by omega) B1.size
  clear RR RG hS B0 B1 T1 HT
  have RC2 := Row.new w1 #[.slice none 0 0, .int .i64 0, .slice none 0 0] 26
  have RR2 := RR1.alloc (.cells #[.slice none 0 0, .int .i64 0, .slice none 0 0] 26)
  have S2 := S1.alloc (.cells #[.slice none 0 0, .int .i64 0, .slice none 0 0] 26)
  have B2 := BB1.alloc BB1.size (.cells #[.slice none 0 0, .int .i64 0, .slice none 0 0] 26)
  have z2 : w1.heap.size < (w1.alloc (.cells #[.slice none 0 0, .int .i64 0, .slice none 0 0] 26)).heap.size := by simp
  clear RR1 S1 BB1
  go_wp2_with fail
  generalize w1.alloc (.cells #[.slice none 0 0, .int .i64 0, .slice none 0 0] 26) = W2 at RC2 RR2 S2 B2 z2 ⊢
  obtain ⟨bc, hbc⟩ : ∃ bc, bc = w1.heap.size := ⟨_, rfl⟩
  rw [← hbc] at RC2 z2 z1 ⊢
  have hgb : w.heap.size + 1 < bc := by omega
  clear hbc z1
  have HN := hide (snum_2 (w.heap.size + 1) s1 W2 S2)
  have HXB := hide (show bodyS s1 = bnd (manyI valS (numS 2 s1).1.toNat) (fun p => bnd (numS 2) fun sl => bnd (numS 2) fun m => bnd (manyI insS m.toNat) fun i => rt (⟨p, sl, i⟩ : Cd)) (numS 2 s1).2 from rfl)
  have hr := numS2_range s1 hok0
  have hok2 : okB (numS 2 s1).2.1 := (takeS_ok 2 s1 hok0).2
  generalize numS 2 s1 = r at HN HXB hr hok2
  obtain ⟨kv, s2⟩ := r
  simp only at hr HXB hok2
  obtain ⟨K, rfl⟩ := Int.eq_ofNat_of_zero_le hr.1
  have hK : K ≤ 65535 := by omega
  simp only [Int.toNat_natCast] at HXB
  clear hr
  refine (unhide HN).mono ?_
  rintro e w3 ⟨rfl, S3, T3⟩
  simp only at S3
  have RC3 := RC2.touch' T3 (.inr (by omega))
  have RR3 := RR2.touch' T3 (.inl (by omega))
  have B3 := below_touch B2 T3 (by omega) B2.size
  have z3 : bc < w3.heap.size := Nat.lt_of_lt_of_le z2 T3.size
  clear RC2 RR2 S2 B2 T3 HN
  go_wp2_with fail
  go_loopw [6] (fun nn wr => ∃ (x : Option Addr) (cx : Nat) (P : List Vl) (nv : List Value) (st : Rs) (k : Nat), nn = .int .i64 k ∧ Row wr bc #[.slice x P.length cx, .int .i64 0, .slice none 0 0] 26 ∧ Row wr w.heap.size #[.slice none 0 0, .int .i64 0, .slice none 0 0] 26 ∧ OwnP wr (bc + 1) (.slice x P.length cx) P nv ∧ P.length + k ≤ K ∧ SRs wr (w.heap.size + 1) st ∧ Hid ((P ++ (manyI valS k st).1, (manyI valS k st).2) = manyI valS K s2) ∧ Below w.heap.size w wr ∧ bc < wr.heap.size) (fun nn wr => (intOf nn).toNat)
  case atStart => exact ⟨none, 0, [], [], s2, K, rfl, RC3, RR3, OwnP.nil _ _, by simp, S3, hide (by simp), B3, z3⟩
  case round =>
    clear RC3 RR3 S3 B3 z3 z2
    obtain ⟨x, cx, P, nv, ⟨st, bk⟩, k, rfl, RCj, RRj, OPj, hk, Sj, hM, Bj, zj⟩ := hrel
    have q1 := Sj.cells
    simp only at q1
    by_cases hgo : 0 < k ∧ bk = false
    · obtain ⟨hk0, rfl⟩ := hgo
      -- [ round1
      obtain ⟨k, rfl⟩ : ∃ k', k = k' + 1 := ⟨k - 1, by omega⟩
      have ilt : (0 : Int) < ((k + 1 : Nat) : Int) := by omega
      have hM1 := unhide hM
      rw [manyI_step _ _ _ rfl] at hM1
      have HM := hide hM1
      have Hk := hide hk
      have hP : P.length ≤ 65534 := by omega
      have hkK : k ≤ 65535 := by omega
      clear hM1 hM hk hk0
      have HN := hide (snum_1 (w.heap.size + 1) (st, false) wr Sj)
      have hr := numS1_range (st, false) Sj.ok
      have hok5 : okB (numS 1 (st, false)).2.1 := (takeS_ok 1 (st, false) Sj.ok).2
      have HVV := hide (show valS (st, false) = valKS (numS 1 (st, false)).1 (numS 1 (st, false)).2 from rfl)
      generalize numS 1 (st, false) = r at HN HVV hr hok5
      obtain ⟨kv, s5⟩ := r
      simp only at hr HVV hok5
      have hr0 := hr.1
      have hr1 := hr.2
      clear hr
      go_wp2_with fail
      refine (unhide HN).mono ?_
      rintro e w5 ⟨rfl, S5', hT5⟩
      simp only at S5'
      have RV5 := Row.new w5 #[.int .i64 kv, .int .i64 0, .string ⟨#[]⟩, .slice none 0 0] 42
      have S5 := S5'.alloc (.cells #[.int .i64 kv, .int .i64 0, .string ⟨#[]⟩, .slice none 0 0] 42)
      have T5 := hT5.alloc (.cells #[.int .i64 kv, .int .i64 0, .string ⟨#[]⟩, .slice none 0 0] 42)
      have hvb := hT5.size
      clear S5' hT5 HN
      obtain ⟨vb, hvbe⟩ : ∃ vb, vb = w5.heap.size := ⟨_, rfl⟩
      obtain ⟨W5, hW5⟩ : ∃ W5, W5 = w5.alloc (.cells #[.int .i64 kv, .int .i64 0, .string ⟨#[]⟩, .slice none 0 0] 42) := ⟨_, rfl⟩
      obtain ⟨u0, u1, u2, u3⟩ := rowV RV5
      have HW5 := hide hW5
      rw [← hW5] at RV5 S5 T5
      rw [← hvbe] at RV5 hvb
      have Hvb := hide hvbe
      clear hW5 hvbe
      by_cases k1 : kv = 1
      · subst k1
        have HVK := hide (show valKS 1 s5 = (⟨1, (numS 1 s5).1, ⟨#[]⟩, []⟩, (numS 1 s5).2) from rfl)
        go_wp2_with fail
        rw [← unhide HW5, ← unhide Hvb]
        clear u0 u1 u2 u3
        have HN2 := hide (snum_1 (w.heap.size + 1) s5 _ S5)
        generalize numS 1 s5 = r at HN2 HVK
        obtain ⟨a, s6⟩ := r
        go_wp2_with fail
        refine (unhide HN2).mono ?_
        rintro e w6 ⟨rfl, S6, hT6⟩
        simp only at S6
        have RV6 := RV5.touch' hT6 (.inr (by omega))
        obtain ⟨c0, c1, c2, c3⟩ := rowV RV6
        have fv := fun j => RV6.frozen j
        have RV3 := RV6.set 1 (.int .i64 a)
        have S3 := S6.setFar ⟨vb, 1, none⟩ (.int .i64 a) (by show w.heap.size + 1 < vb; omega)
        have T3 := (T5.trans hT6).setNew ⟨vb, 1, none⟩ (.int .i64 a) (by show wr.heap.size ≤ vb; omega)
        simp only [List.setIfInBounds_toArray, List.set_cons_succ, List.set_cons_zero] at RV3
        have HVX := hide ((unhide HVV).trans (unhide HVK))
        have hokY : okV (valS (st, false)).1 := (valS_ok _ Sj.ok).1
        rw [unhide HVX] at hokY
        obtain ⟨d0, d1, d2⟩ := rowC (RCj.touch' (T5.trans hT6) (.inr (by omega)))
        clear RV6 S6 hT6 HN2 HVK HVV RV5 S5 T5
        obtain ⟨W6, hW6⟩ : ∃ W6, W6 = w6.setCell ⟨vb, 1, none⟩ (.int .i64 a) := ⟨_, rfl⟩
        rw [← hW6] at RV3 S3 T3
        have HW6 := hide hW6
        have hz6 : W6.heap.size = w6.heap.size := by rw [hW6]; simp
        clear hW6
        have RV6 := RV3
        have OU6 : W6.ownsRow wr.heap.size 9 1 (.slice none 0 0) 0 [] := World.ownsRow_nil _ _ _ _
        have S6 := S3
        have T6 := T3
        clear RV3 S3 T3

        have OP6 := OPj.blocks (w' := W6) (fun k hk hk' => T6.block k hk' (.inr (by omega)))
        have lts := OPj.lts
        have RC6 := RCj.touch' T6 (.inr (by omega))
        have RR6 := RRj.touch' T6 (.inl (by omega))
        have z6 := T6.size
        have hne : bc ≠ vb := by omega
        have hne' : vb ≠ bc := by omega
        have OP7 := OP6.alloc (.cells #[.int .i64 1, .int .i64 a, .string ⟨#[]⟩, .slice none 0 0] 42)
        have OU7 := World.ownsRow.alloc OU6 (.cells #[.int .i64 1, .int .i64 a, .string ⟨#[]⟩, .slice none 0 0] 42)
        have RC7 := RC6.alloc (.cells #[.int .i64 1, .int .i64 a, .string ⟨#[]⟩, .slice none 0 0] 42)
        have RR7 := RR6.alloc (.cells #[.int .i64 1, .int .i64 a, .string ⟨#[]⟩, .slice none 0 0] 42)
        have S7 := S6.alloc (.cells #[.int .i64 1, .int .i64 a, .string ⟨#[]⟩, .slice none 0 0] 42)
        have NW := World.news_of_block (heap_alloc_new W6 (.cells #[.int .i64 1, .int .i64 a, .string ⟨#[]⟩, .slice none 0 0] 42))
        rw [hz6] at NW
        have hub : ∀ q, (Value.slice none 0 0).ownBlock = some q → wr.heap.size ≤ q := fun q hq => (OU6.lt q hq).1
        have HokY := hide hokY
        clear hokY
        go_wp2_with (at_builtin; rw [← unhide HW6]; refine wpList_append_lies _ rfl _ _ 23 rfl (bc + 1) 42 iv (.agg #[.int .i64 0, .int .i64 0, .string ByteArray.empty, .slice none 0 0]) 4 56 Try.underlying23 hiv hv0 hv1 hv2 rfl (by decide) (.slice x P.length cx) P.length (vlC P nv) rfl OP7.own ⟨w6.heap.size, 0, none⟩ 1 1 (vl4 (Vl.mk (1) (a) ⟨#[]⟩ ([] : List ByteArray)) (.slice none 0 0)) rfl rfl NW (by intro u hu; simp [vl4] at hu; rcases hu with rfl | rfl | rfl | rfl <;> rfl) (by decide) (by unfold maxLen; omega) (by omega) (by simp; omega) _ rfl ?_; intro g7 cap7 w7 O7 hgrow hat hlt7; have RC8 : Row w7 bc _ _ := ⟨(hgrow.block bc RC7.lt (fun e => by have := (lts.1 _ e.symm).1; omega)).trans RC7.out⟩; obtain ⟨t0, t1, t2⟩ := rowC RC8; have tf := fun j => RC8.frozen j)
        have hcb : ∀ q, (Value.slice x P.length cx).ownBlock = some q → bc + 1 ≤ q ∧ q < wr.heap.size := lts.1
        have OP8 : OwnP w7 (bc + 1) (.slice (some ⟨g7, 0, none⟩) (P.length + 1) cap7) (P ++ [(Vl.mk (1) (a) ⟨#[]⟩ ([] : List ByteArray))]) (nv ++ [.slice none 0 0]) := OP7.snoc (ownsRow_low' OU7 (by omega)) (fun j hj q hq e => by have := (lts.2 j hj q hq).2; have := hub q e; omega) (fun q hq e => by have := (hcb q e).2; have := hub q hq; omega) O7 hgrow (fun q hq => by
          have e : g7 = q := by simpa [Value.ownBlock] using hq
          subst e
          rcases hat with e | e
          · exact .inl e
          · right; simp at e ⊢; omega)
        have S8 := S7.grown hgrow (fun q hq => by have := (hcb q hq).1; omega)
        have RR8 : Row w7 w.heap.size _ _ := ⟨(hgrow.block w.heap.size RR7.lt (fun e => by have := (hcb _ e.symm).1; omega)).trans RR7.out⟩
        have zg := hgrow.size
        simp only [World.size_alloc] at zg
        have B8 := ((below_touch Bj T6 (by omega) Bj.size).alloc (by omega) (.cells #[.int .i64 1, .int .i64 a, .string ⟨#[]⟩, .slice none 0 0] 42)).grown hgrow (by simp; omega) (fun q hq => by have := (hcb q hq).1; omega)
        have RC9 := RC8.set 0 (.slice (some ⟨g7, 0, none⟩) (P.length + 1) cap7)
        simp only [List.setIfInBounds_toArray, List.set_cons_zero] at RC9
        have RR9 := RR8.setFar (p := ⟨bc, 0, none⟩) (by show w.heap.size ≠ bc; omega) (.slice (some ⟨g7, 0, none⟩) (P.length + 1) cap7)
        have S9 := S8.setFar ⟨bc, 0, none⟩ (.slice (some ⟨g7, 0, none⟩) (P.length + 1) cap7) (by show w.heap.size + 1 < bc; omega)
        have OP9 := OP8.set ⟨bc, 0, none⟩ (.slice (some ⟨g7, 0, none⟩) (P.length + 1) cap7) (by show bc < bc + 1; omega)
        have B9 := B8.setCell (p := ⟨bc, 0, none⟩) (by show w.heap.size ≤ bc; omega) (.slice (some ⟨g7, 0, none⟩) (P.length + 1) cap7)
        have z9 : bc < (w7.setCell ⟨bc, 0, none⟩ (.slice (some ⟨g7, 0, none⟩) (P.length + 1) cap7)).heap.size := by simp; omega
        have HL := hide (show (P ++ [(Vl.mk (1) (a) ⟨#[]⟩ ([] : List ByteArray))]).length = P.length + 1 by simp)
        have HF : Hid (Row (w7.setCell ⟨bc, 0, none⟩ (.slice (some ⟨g7, 0, none⟩) (P.length + 1) cap7)) bc #[.slice (some ⟨g7, 0, none⟩) (P ++ [(Vl.mk (1) (a) ⟨#[]⟩ ([] : List ByteArray))]).length cap7, .int .i64 0, .slice none 0 0] 26 ∧ OwnP (w7.setCell ⟨bc, 0, none⟩ (.slice (some ⟨g7, 0, none⟩) (P.length + 1) cap7)) (bc + 1) (.slice (some ⟨g7, 0, none⟩) (P ++ [(Vl.mk (1) (a) ⟨#[]⟩ ([] : List ByteArray))]).length cap7) (P ++ [(Vl.mk (1) (a) ⟨#[]⟩ ([] : List ByteArray))]) (nv ++ [.slice none 0 0])) := hide (by rw [unhide HL]; exact ⟨RC9, OP9⟩)
        have HM9 : Hid ((P ++ [(Vl.mk (1) (a) ⟨#[]⟩ ([] : List ByteArray))] ++ (manyI valS k s6).1, (manyI valS k s6).2) = manyI valS K s2) := hide (by have := unhide HM; rw [unhide HVX] at this; exact this)
        clear hgrow hat O7 OP7 OP8 OP9 OP6 T6 RR7 RR8 RC9 RC8 RC7 RC6 OU6 OU7 NW S6 S7 S8 B8 lts RV6 RCj RRj OPj Sj Bj
        go_wp2_with fail
        go_roundw
        case rel => exact ⟨some ⟨g7, 0, none⟩, cap7, P ++ [(Vl.mk (1) (a) ⟨#[]⟩ ([] : List ByteArray))], nv ++ [.slice none 0 0], s6, k, by go_num, (unhide HF).1, RR9, (unhide HF).2, by rw [unhide HL]; have := unhide Hk; omega, S9, HM9, B9, z9⟩
        case measure => (simp [intOf]; try omega)
      by_cases k2 : kv = 2
      · subst k2
        have HVK := hide (show valKS 2 s5 = (⟨2, (numS 8 s5).1, ⟨#[]⟩, []⟩, (numS 8 s5).2) from rfl)
        go_wp2_with fail
        rw [← unhide HW5, ← unhide Hvb]
        clear u0 u1 u2 u3
        have HN2 := hide (snum_8 (w.heap.size + 1) s5 _ S5)
        generalize numS 8 s5 = r at HN2 HVK
        obtain ⟨a, s6⟩ := r
        go_wp2_with fail
        refine (unhide HN2).mono ?_
        rintro e w6 ⟨rfl, S6, hT6⟩
        simp only at S6
        have RV6 := RV5.touch' hT6 (.inr (by omega))
        obtain ⟨c0, c1, c2, c3⟩ := rowV RV6
        have fv := fun j => RV6.frozen j
        have RV3 := RV6.set 1 (.int .i64 a)
        have S3 := S6.setFar ⟨vb, 1, none⟩ (.int .i64 a) (by show w.heap.size + 1 < vb; omega)
        have T3 := (T5.trans hT6).setNew ⟨vb, 1, none⟩ (.int .i64 a) (by show wr.heap.size ≤ vb; omega)
        simp only [List.setIfInBounds_toArray, List.set_cons_succ, List.set_cons_zero] at RV3
        have HVX := hide ((unhide HVV).trans (unhide HVK))
        have hokY : okV (valS (st, false)).1 := (valS_ok _ Sj.ok).1
        rw [unhide HVX] at hokY
        obtain ⟨d0, d1, d2⟩ := rowC (RCj.touch' (T5.trans hT6) (.inr (by omega)))
        clear RV6 S6 hT6 HN2 HVK HVV RV5 S5 T5
        obtain ⟨W6, hW6⟩ : ∃ W6, W6 = w6.setCell ⟨vb, 1, none⟩ (.int .i64 a) := ⟨_, rfl⟩
        rw [← hW6] at RV3 S3 T3
        have HW6 := hide hW6
        have hz6 : W6.heap.size = w6.heap.size := by rw [hW6]; simp
        clear hW6
        have RV6 := RV3
        have OU6 : W6.ownsRow wr.heap.size 9 1 (.slice none 0 0) 0 [] := World.ownsRow_nil _ _ _ _
        have S6 := S3
        have T6 := T3
        clear RV3 S3 T3

        have OP6 := OPj.blocks (w' := W6) (fun k hk hk' => T6.block k hk' (.inr (by omega)))
        have lts := OPj.lts
        have RC6 := RCj.touch' T6 (.inr (by omega))
        have RR6 := RRj.touch' T6 (.inl (by omega))
        have z6 := T6.size
        have hne : bc ≠ vb := by omega
        have hne' : vb ≠ bc := by omega
        have OP7 := OP6.alloc (.cells #[.int .i64 2, .int .i64 a, .string ⟨#[]⟩, .slice none 0 0] 42)
        have OU7 := World.ownsRow.alloc OU6 (.cells #[.int .i64 2, .int .i64 a, .string ⟨#[]⟩, .slice none 0 0] 42)
        have RC7 := RC6.alloc (.cells #[.int .i64 2, .int .i64 a, .string ⟨#[]⟩, .slice none 0 0] 42)
        have RR7 := RR6.alloc (.cells #[.int .i64 2, .int .i64 a, .string ⟨#[]⟩, .slice none 0 0] 42)
        have S7 := S6.alloc (.cells #[.int .i64 2, .int .i64 a, .string ⟨#[]⟩, .slice none 0 0] 42)
        have NW := World.news_of_block (heap_alloc_new W6 (.cells #[.int .i64 2, .int .i64 a, .string ⟨#[]⟩, .slice none 0 0] 42))
        rw [hz6] at NW
        have hub : ∀ q, (Value.slice none 0 0).ownBlock = some q → wr.heap.size ≤ q := fun q hq => (OU6.lt q hq).1
        have HokY := hide hokY
        clear hokY
        go_wp2_with (at_builtin; rw [← unhide HW6]; refine wpList_append_lies _ rfl _ _ 23 rfl (bc + 1) 42 iv (.agg #[.int .i64 0, .int .i64 0, .string ByteArray.empty, .slice none 0 0]) 4 56 Try.underlying23 hiv hv0 hv1 hv2 rfl (by decide) (.slice x P.length cx) P.length (vlC P nv) rfl OP7.own ⟨w6.heap.size, 0, none⟩ 1 1 (vl4 (Vl.mk (2) (a) ⟨#[]⟩ ([] : List ByteArray)) (.slice none 0 0)) rfl rfl NW (by intro u hu; simp [vl4] at hu; rcases hu with rfl | rfl | rfl | rfl <;> rfl) (by decide) (by unfold maxLen; omega) (by omega) (by simp; omega) _ rfl ?_; intro g7 cap7 w7 O7 hgrow hat hlt7; have RC8 : Row w7 bc _ _ := ⟨(hgrow.block bc RC7.lt (fun e => by have := (lts.1 _ e.symm).1; omega)).trans RC7.out⟩; obtain ⟨t0, t1, t2⟩ := rowC RC8; have tf := fun j => RC8.frozen j)
        have hcb : ∀ q, (Value.slice x P.length cx).ownBlock = some q → bc + 1 ≤ q ∧ q < wr.heap.size := lts.1
        have OP8 : OwnP w7 (bc + 1) (.slice (some ⟨g7, 0, none⟩) (P.length + 1) cap7) (P ++ [(Vl.mk (2) (a) ⟨#[]⟩ ([] : List ByteArray))]) (nv ++ [.slice none 0 0]) := OP7.snoc (ownsRow_low' OU7 (by omega)) (fun j hj q hq e => by have := (lts.2 j hj q hq).2; have := hub q e; omega) (fun q hq e => by have := (hcb q e).2; have := hub q hq; omega) O7 hgrow (fun q hq => by
          have e : g7 = q := by simpa [Value.ownBlock] using hq
          subst e
          rcases hat with e | e
          · exact .inl e
          · right; simp at e ⊢; omega)
        have S8 := S7.grown hgrow (fun q hq => by have := (hcb q hq).1; omega)
        have RR8 : Row w7 w.heap.size _ _ := ⟨(hgrow.block w.heap.size RR7.lt (fun e => by have := (hcb _ e.symm).1; omega)).trans RR7.out⟩
        have zg := hgrow.size
        simp only [World.size_alloc] at zg
        have B8 := ((below_touch Bj T6 (by omega) Bj.size).alloc (by omega) (.cells #[.int .i64 2, .int .i64 a, .string ⟨#[]⟩, .slice none 0 0] 42)).grown hgrow (by simp; omega) (fun q hq => by have := (hcb q hq).1; omega)
        have RC9 := RC8.set 0 (.slice (some ⟨g7, 0, none⟩) (P.length + 1) cap7)
        simp only [List.setIfInBounds_toArray, List.set_cons_zero] at RC9
        have RR9 := RR8.setFar (p := ⟨bc, 0, none⟩) (by show w.heap.size ≠ bc; omega) (.slice (some ⟨g7, 0, none⟩) (P.length + 1) cap7)
        have S9 := S8.setFar ⟨bc, 0, none⟩ (.slice (some ⟨g7, 0, none⟩) (P.length + 1) cap7) (by show w.heap.size + 1 < bc; omega)
        have OP9 := OP8.set ⟨bc, 0, none⟩ (.slice (some ⟨g7, 0, none⟩) (P.length + 1) cap7) (by show bc < bc + 1; omega)
        have B9 := B8.setCell (p := ⟨bc, 0, none⟩) (by show w.heap.size ≤ bc; omega) (.slice (some ⟨g7, 0, none⟩) (P.length + 1) cap7)
        have z9 : bc < (w7.setCell ⟨bc, 0, none⟩ (.slice (some ⟨g7, 0, none⟩) (P.length + 1) cap7)).heap.size := by simp; omega
        have HL := hide (show (P ++ [(Vl.mk (2) (a) ⟨#[]⟩ ([] : List ByteArray))]).length = P.length + 1 by simp)
        have HF : Hid (Row (w7.setCell ⟨bc, 0, none⟩ (.slice (some ⟨g7, 0, none⟩) (P.length + 1) cap7)) bc #[.slice (some ⟨g7, 0, none⟩) (P ++ [(Vl.mk (2) (a) ⟨#[]⟩ ([] : List ByteArray))]).length cap7, .int .i64 0, .slice none 0 0] 26 ∧ OwnP (w7.setCell ⟨bc, 0, none⟩ (.slice (some ⟨g7, 0, none⟩) (P.length + 1) cap7)) (bc + 1) (.slice (some ⟨g7, 0, none⟩) (P ++ [(Vl.mk (2) (a) ⟨#[]⟩ ([] : List ByteArray))]).length cap7) (P ++ [(Vl.mk (2) (a) ⟨#[]⟩ ([] : List ByteArray))]) (nv ++ [.slice none 0 0])) := hide (by rw [unhide HL]; exact ⟨RC9, OP9⟩)
        have HM9 : Hid ((P ++ [(Vl.mk (2) (a) ⟨#[]⟩ ([] : List ByteArray))] ++ (manyI valS k s6).1, (manyI valS k s6).2) = manyI valS K s2) := hide (by have := unhide HM; rw [unhide HVX] at this; exact this)
        clear hgrow hat O7 OP7 OP8 OP9 OP6 T6 RR7 RR8 RC9 RC8 RC7 RC6 OU6 OU7 NW S6 S7 S8 B8 lts RV6 RCj RRj OPj Sj Bj
        go_wp2_with fail
        go_roundw
        case rel => exact ⟨some ⟨g7, 0, none⟩, cap7, P ++ [(Vl.mk (2) (a) ⟨#[]⟩ ([] : List ByteArray))], nv ++ [.slice none 0 0], s6, k, by go_num, (unhide HF).1, RR9, (unhide HF).2, by rw [unhide HL]; have := unhide Hk; omega, S9, HM9, B9, z9⟩
        case measure => (simp [intOf]; try omega)
      by_cases k3 : kv = 3
      · subst k3
        have HVK := hide (show valKS 3 s5 = (⟨3, 0, (textS s5).1, []⟩, (textS s5).2) from rfl)
        go_wp2_with fail
        rw [← unhide HW5, ← unhide Hvb]
        clear u0 u1 u2 u3
        have HN2 := hide (stext_any (w.heap.size + 1) s5 _ S5)
        generalize textS s5 = r at HN2 HVK
        obtain ⟨a, s6⟩ := r
        go_wp2_with fail
        refine (unhide HN2).mono ?_
        rintro e w6 ⟨rfl, S6, hT6⟩
        simp only at S6
        have RV6 := RV5.touch' hT6 (.inr (by omega))
        obtain ⟨c0, c1, c2, c3⟩ := rowV RV6
        have fv := fun j => RV6.frozen j
        have RV3 := RV6.set 2 (.string a)
        have S3 := S6.setFar ⟨vb, 2, none⟩ (.string a) (by show w.heap.size + 1 < vb; omega)
        have T3 := (T5.trans hT6).setNew ⟨vb, 2, none⟩ (.string a) (by show wr.heap.size ≤ vb; omega)
        simp only [List.setIfInBounds_toArray, List.set_cons_succ, List.set_cons_zero] at RV3
        have HVX := hide ((unhide HVV).trans (unhide HVK))
        have hokY : okV (valS (st, false)).1 := (valS_ok _ Sj.ok).1
        rw [unhide HVX] at hokY
        obtain ⟨d0, d1, d2⟩ := rowC (RCj.touch' (T5.trans hT6) (.inr (by omega)))
        clear RV6 S6 hT6 HN2 HVK HVV RV5 S5 T5
        obtain ⟨W6, hW6⟩ : ∃ W6, W6 = w6.setCell ⟨vb, 2, none⟩ (.string a) := ⟨_, rfl⟩
        rw [← hW6] at RV3 S3 T3
        have HW6 := hide hW6
        have hz6 : W6.heap.size = w6.heap.size := by rw [hW6]; simp
        clear hW6
        have RV6 := RV3
        have OU6 : W6.ownsRow wr.heap.size 9 1 (.slice none 0 0) 0 [] := World.ownsRow_nil _ _ _ _
        have S6 := S3
        have T6 := T3
        clear RV3 S3 T3

        have OP6 := OPj.blocks (w' := W6) (fun k hk hk' => T6.block k hk' (.inr (by omega)))
        have lts := OPj.lts
        have RC6 := RCj.touch' T6 (.inr (by omega))
        have RR6 := RRj.touch' T6 (.inl (by omega))
        have z6 := T6.size
        have hne : bc ≠ vb := by omega
        have hne' : vb ≠ bc := by omega
        have OP7 := OP6.alloc (.cells #[.int .i64 3, .int .i64 0, .string a, .slice none 0 0] 42)
        have OU7 := World.ownsRow.alloc OU6 (.cells #[.int .i64 3, .int .i64 0, .string a, .slice none 0 0] 42)
        have RC7 := RC6.alloc (.cells #[.int .i64 3, .int .i64 0, .string a, .slice none 0 0] 42)
        have RR7 := RR6.alloc (.cells #[.int .i64 3, .int .i64 0, .string a, .slice none 0 0] 42)
        have S7 := S6.alloc (.cells #[.int .i64 3, .int .i64 0, .string a, .slice none 0 0] 42)
        have NW := World.news_of_block (heap_alloc_new W6 (.cells #[.int .i64 3, .int .i64 0, .string a, .slice none 0 0] 42))
        rw [hz6] at NW
        have hub : ∀ q, (Value.slice none 0 0).ownBlock = some q → wr.heap.size ≤ q := fun q hq => (OU6.lt q hq).1
        have HokY := hide hokY
        clear hokY
        go_wp2_with (at_builtin; rw [← unhide HW6]; refine wpList_append_lies _ rfl _ _ 23 rfl (bc + 1) 42 iv (.agg #[.int .i64 0, .int .i64 0, .string ByteArray.empty, .slice none 0 0]) 4 56 Try.underlying23 hiv hv0 hv1 hv2 rfl (by decide) (.slice x P.length cx) P.length (vlC P nv) rfl OP7.own ⟨w6.heap.size, 0, none⟩ 1 1 (vl4 (Vl.mk (3) (0) (a) ([] : List ByteArray)) (.slice none 0 0)) rfl rfl NW (by intro u hu; simp [vl4] at hu; rcases hu with rfl | rfl | rfl | rfl <;> rfl) (by decide) (by unfold maxLen; omega) (by omega) (by simp; omega) _ rfl ?_; intro g7 cap7 w7 O7 hgrow hat hlt7; have RC8 : Row w7 bc _ _ := ⟨(hgrow.block bc RC7.lt (fun e => by have := (lts.1 _ e.symm).1; omega)).trans RC7.out⟩; obtain ⟨t0, t1, t2⟩ := rowC RC8; have tf := fun j => RC8.frozen j)
        have hcb : ∀ q, (Value.slice x P.length cx).ownBlock = some q → bc + 1 ≤ q ∧ q < wr.heap.size := lts.1
        have OP8 : OwnP w7 (bc + 1) (.slice (some ⟨g7, 0, none⟩) (P.length + 1) cap7) (P ++ [(Vl.mk (3) (0) (a) ([] : List ByteArray))]) (nv ++ [.slice none 0 0]) := OP7.snoc (ownsRow_low' OU7 (by omega)) (fun j hj q hq e => by have := (lts.2 j hj q hq).2; have := hub q e; omega) (fun q hq e => by have := (hcb q e).2; have := hub q hq; omega) O7 hgrow (fun q hq => by
          have e : g7 = q := by simpa [Value.ownBlock] using hq
          subst e
          rcases hat with e | e
          · exact .inl e
          · right; simp at e ⊢; omega)
        have S8 := S7.grown hgrow (fun q hq => by have := (hcb q hq).1; omega)
        have RR8 : Row w7 w.heap.size _ _ := ⟨(hgrow.block w.heap.size RR7.lt (fun e => by have := (hcb _ e.symm).1; omega)).trans RR7.out⟩
        have zg := hgrow.size
        simp only [World.size_alloc] at zg
        have B8 := ((below_touch Bj T6 (by omega) Bj.size).alloc (by omega) (.cells #[.int .i64 3, .int .i64 0, .string a, .slice none 0 0] 42)).grown hgrow (by simp; omega) (fun q hq => by have := (hcb q hq).1; omega)
        have RC9 := RC8.set 0 (.slice (some ⟨g7, 0, none⟩) (P.length + 1) cap7)
        simp only [List.setIfInBounds_toArray, List.set_cons_zero] at RC9
        have RR9 := RR8.setFar (p := ⟨bc, 0, none⟩) (by show w.heap.size ≠ bc; omega) (.slice (some ⟨g7, 0, none⟩) (P.length + 1) cap7)
        have S9 := S8.setFar ⟨bc, 0, none⟩ (.slice (some ⟨g7, 0, none⟩) (P.length + 1) cap7) (by show w.heap.size + 1 < bc; omega)
        have OP9 := OP8.set ⟨bc, 0, none⟩ (.slice (some ⟨g7, 0, none⟩) (P.length + 1) cap7) (by show bc < bc + 1; omega)
        have B9 := B8.setCell (p := ⟨bc, 0, none⟩) (by show w.heap.size ≤ bc; omega) (.slice (some ⟨g7, 0, none⟩) (P.length + 1) cap7)
        have z9 : bc < (w7.setCell ⟨bc, 0, none⟩ (.slice (some ⟨g7, 0, none⟩) (P.length + 1) cap7)).heap.size := by simp; omega
        have HL := hide (show (P ++ [(Vl.mk (3) (0) (a) ([] : List ByteArray))]).length = P.length + 1 by simp)
        have HF : Hid (Row (w7.setCell ⟨bc, 0, none⟩ (.slice (some ⟨g7, 0, none⟩) (P.length + 1) cap7)) bc #[.slice (some ⟨g7, 0, none⟩) (P ++ [(Vl.mk (3) (0) (a) ([] : List ByteArray))]).length cap7, .int .i64 0, .slice none 0 0] 26 ∧ OwnP (w7.setCell ⟨bc, 0, none⟩ (.slice (some ⟨g7, 0, none⟩) (P.length + 1) cap7)) (bc + 1) (.slice (some ⟨g7, 0, none⟩) (P ++ [(Vl.mk (3) (0) (a) ([] : List ByteArray))]).length cap7) (P ++ [(Vl.mk (3) (0) (a) ([] : List ByteArray))]) (nv ++ [.slice none 0 0])) := hide (by rw [unhide HL]; exact ⟨RC9, OP9⟩)
        have HM9 : Hid ((P ++ [(Vl.mk (3) (0) (a) ([] : List ByteArray))] ++ (manyI valS k s6).1, (manyI valS k s6).2) = manyI valS K s2) := hide (by have := unhide HM; rw [unhide HVX] at this; exact this)
        clear hgrow hat O7 OP7 OP8 OP9 OP6 T6 RR7 RR8 RC9 RC8 RC7 RC6 OU6 OU7 NW S6 S7 S8 B8 lts RV6 RCj RRj OPj Sj Bj
        go_wp2_with fail
        go_roundw
        case rel => exact ⟨some ⟨g7, 0, none⟩, cap7, P ++ [(Vl.mk (3) (0) (a) ([] : List ByteArray))], nv ++ [.slice none 0 0], s6, k, by go_num, (unhide HF).1, RR9, (unhide HF).2, by rw [unhide HL]; have := unhide Hk; omega, S9, HM9, B9, z9⟩
        case measure => (simp [intOf]; try omega)
      by_cases k4 : kv = 4
      · subst k4
        have HVK := hide (show valKS 4 s5 = (⟨4, 0, ⟨#[]⟩, (bnd (numS 1) (fun n => manyS textS n.toNat) s5).1⟩, (bnd (numS 1) (fun n => manyS textS n.toNat) s5).2) from rfl)
        go_wp2_with fail
        rw [← unhide HW5, ← unhide Hvb]
        clear u0 u1 u2 u3
        have HN2 := hide (snum_1 (w.heap.size + 1) s5 _ S5)
        have hrk := numS1_range s5 hok5
        have hok6 : okB (numS 1 s5).2.1 := (takeS_ok 1 s5 hok5).2
        have HVK := hide ((unhide HVK).trans (show _ = ((⟨4, 0, ⟨#[]⟩, (manyS textS (numS 1 s5).1.toNat (numS 1 s5).2).1⟩, (manyS textS (numS 1 s5).1.toNat (numS 1 s5).2).2) : Vl × Rs) from rfl))
        generalize numS 1 s5 = r at HN2 HVK hrk hok6
        obtain ⟨kk, s7⟩ := r
        simp only at hrk HVK hok6
        obtain ⟨KN, rfl⟩ := Int.eq_ofNat_of_zero_le hrk.1
        have hKN : KN ≤ 255 := by omega
        simp only [Int.toNat_natCast] at HVK
        clear hrk
        go_wp2_with fail
        refine (unhide HN2).mono ?_
        rintro e w6 ⟨rfl, S6, hT6⟩
        simp only at S6
        have RV6 := RV5.touch' hT6 (.inr (by omega))
        have T6 := T5.trans hT6
        have hv6 : vb < w6.heap.size := RV6.lt
        clear hT6 HN2 RV5 S5 T5
        go_wp2_with fail
        obtain ⟨wo, rfl⟩ : ∃ wo, wo = wr := ⟨_, rfl⟩
        go_loopw [8] (fun jj wq => ∃ (xn : Option Addr) (cn : Nat) (acc : List ByteArray) (sn : Rs) (j : Nat), jj = .int .i64 j ∧ Row wq vb #[.int .i64 4, .int .i64 0, .string ⟨#[]⟩, .slice xn acc.length cn] 42 ∧ wq.ownsRow (vb + 1) 9 1 (.slice xn acc.length cn) acc.length (acc.map Value.string) ∧ SRs wq (w.heap.size + 1) sn ∧ Hid ((acc ++ (manyS textS j sn).1, (manyS textS j sn).2) = manyS textS KN s7) ∧ acc.length + j = KN ∧ Touch (w.heap.size + 1) (w.heap.size + 1 + 1) wo wq ∧ vb < wq.heap.size) (fun jj wq => (intOf jj).toNat)
        case atStart => exact ⟨none, 0, [], s7, KN, rfl, RV6, World.ownsRow_nil _ _ _ _, S6, hide (by simp), by simp, T6, hv6⟩
        case round =>
          clear RV6 S6 T6 hv6
          obtain ⟨xn, cn, acc, sn, j, rfl, RVq, OUq, Sq, HMq, hjq, Tq, zq⟩ := hrel
          obtain ⟨c0, c1, c2, c3⟩ := rowV RVq
          cases j with
          | zero =>
            have hMq := unhide HMq
            rw [manyS, List.append_nil] at hMq
            have HVX := hide (((unhide HVV).trans (unhide HVK)).trans (show _ = ((⟨4, 0, ⟨#[]⟩, acc⟩, sn) : Vl × Rs) by rw [← hMq]))
            have hokY : okV (valS (st, false)).1 := (valS_ok _ Sj.ok).1
            rw [unhide HVX] at hokY
            have Hjq := hide hjq
            clear HVV HVK HMq hMq hjq
            obtain ⟨d0, d1, d2⟩ := rowC (RCj.touch' Tq (.inr (by omega)))
            obtain ⟨s6, hs6⟩ : ∃ s6, s6 = sn := ⟨_, rfl⟩
            rw [← hs6] at Sq HVX
            clear hs6
            have OU6 := ownsRow_low' (base' := wo.heap.size) OUq (by omega)
            have RV6 := RVq
            have S6 := Sq
            have T6 := Tq
            obtain ⟨W6, hW6⟩ : ∃ W6, W6 = wr := ⟨_, rfl⟩
            rw [← hW6] at RV6 OU6 S6 T6
            have HW6 := hide hW6
            clear hW6 RVq OUq Sq Tq zq
            have OP6 := OPj.blocks (w' := W6) (fun k hk hk' => T6.block k hk' (.inr (by omega)))
            have lts := OPj.lts
            have RC6 := RCj.touch' T6 (.inr (by omega))
            have RR6 := RRj.touch' T6 (.inl (by omega))
            have z6 := T6.size
            have hne : bc ≠ vb := by omega
            have hne' : vb ≠ bc := by omega
            have OP7 := OP6.alloc (.cells #[.int .i64 4, .int .i64 0, .string ⟨#[]⟩, .slice xn acc.length cn] 42)
            have OU7 := World.ownsRow.alloc OU6 (.cells #[.int .i64 4, .int .i64 0, .string ⟨#[]⟩, .slice xn acc.length cn] 42)
            have RC7 := RC6.alloc (.cells #[.int .i64 4, .int .i64 0, .string ⟨#[]⟩, .slice xn acc.length cn] 42)
            have RR7 := RR6.alloc (.cells #[.int .i64 4, .int .i64 0, .string ⟨#[]⟩, .slice xn acc.length cn] 42)
            have S7 := S6.alloc (.cells #[.int .i64 4, .int .i64 0, .string ⟨#[]⟩, .slice xn acc.length cn] 42)
            have NW := World.news_of_block (heap_alloc_new W6 (.cells #[.int .i64 4, .int .i64 0, .string ⟨#[]⟩, .slice xn acc.length cn] 42))
            have hub : ∀ q, (Value.slice xn acc.length cn).ownBlock = some q → wo.heap.size ≤ q := fun q hq => (OU6.lt q hq).1
            have HokY := hide hokY
            clear hokY
            go_wp2_with (at_builtin; rw [← unhide HW6]; refine wpList_append_lies _ rfl _ _ 23 rfl (bc + 1) 42 iv (.agg #[.int .i64 0, .int .i64 0, .string ByteArray.empty, .slice none 0 0]) 4 56 Try.underlying23 hiv hv0 hv1 hv2 rfl (by decide) (.slice x P.length cx) P.length (vlC P nv) rfl OP7.own ⟨W6.heap.size, 0, none⟩ 1 1 (vl4 (Vl.mk (4) (0) ⟨#[]⟩ acc) (.slice xn acc.length cn)) rfl rfl NW (by intro u hu; simp [vl4] at hu; rcases hu with rfl | rfl | rfl | rfl <;> rfl) (by decide) (by unfold maxLen; omega) (by omega) (by simp; omega) _ rfl ?_; intro g7 cap7 w7 O7 hgrow hat hlt7; have RC8 : Row w7 bc _ _ := ⟨(hgrow.block bc RC7.lt (fun e => by have := (lts.1 _ e.symm).1; omega)).trans RC7.out⟩; obtain ⟨t0, t1, t2⟩ := rowC RC8; have tf := fun j => RC8.frozen j)
            have hcb : ∀ q, (Value.slice x P.length cx).ownBlock = some q → bc + 1 ≤ q ∧ q < wo.heap.size := lts.1
            have OP8 : OwnP w7 (bc + 1) (.slice (some ⟨g7, 0, none⟩) (P.length + 1) cap7) (P ++ [(Vl.mk (4) (0) ⟨#[]⟩ acc)]) (nv ++ [.slice xn acc.length cn]) := OP7.snoc (ownsRow_low' OU7 (by omega)) (fun j hj q hq e => by have := (lts.2 j hj q hq).2; have := hub q e; omega) (fun q hq e => by have := (hcb q e).2; have := hub q hq; omega) O7 hgrow (fun q hq => by
              have e : g7 = q := by simpa [Value.ownBlock] using hq
              subst e
              rcases hat with e | e
              · exact .inl e
              · right; simp at e ⊢; omega)
            have S8 := S7.grown hgrow (fun q hq => by have := (hcb q hq).1; omega)
            have RR8 : Row w7 w.heap.size _ _ := ⟨(hgrow.block w.heap.size RR7.lt (fun e => by have := (hcb _ e.symm).1; omega)).trans RR7.out⟩
            have zg := hgrow.size
            simp only [World.size_alloc] at zg
            have B8 := ((below_touch Bj T6 (by omega) Bj.size).alloc (by omega) (.cells #[.int .i64 4, .int .i64 0, .string ⟨#[]⟩, .slice xn acc.length cn] 42)).grown hgrow (by simp; omega) (fun q hq => by have := (hcb q hq).1; omega)
            have RC9 := RC8.set 0 (.slice (some ⟨g7, 0, none⟩) (P.length + 1) cap7)
            simp only [List.setIfInBounds_toArray, List.set_cons_zero] at RC9
            have RR9 := RR8.setFar (p := ⟨bc, 0, none⟩) (by show w.heap.size ≠ bc; omega) (.slice (some ⟨g7, 0, none⟩) (P.length + 1) cap7)
            have S9 := S8.setFar ⟨bc, 0, none⟩ (.slice (some ⟨g7, 0, none⟩) (P.length + 1) cap7) (by show w.heap.size + 1 < bc; omega)
            have OP9 := OP8.set ⟨bc, 0, none⟩ (.slice (some ⟨g7, 0, none⟩) (P.length + 1) cap7) (by show bc < bc + 1; omega)
            have B9 := B8.setCell (p := ⟨bc, 0, none⟩) (by show w.heap.size ≤ bc; omega) (.slice (some ⟨g7, 0, none⟩) (P.length + 1) cap7)
            have z9 : bc < (w7.setCell ⟨bc, 0, none⟩ (.slice (some ⟨g7, 0, none⟩) (P.length + 1) cap7)).heap.size := by simp; omega
            have HL := hide (show (P ++ [(Vl.mk (4) (0) ⟨#[]⟩ acc)]).length = P.length + 1 by simp)
            have HF : Hid (Row (w7.setCell ⟨bc, 0, none⟩ (.slice (some ⟨g7, 0, none⟩) (P.length + 1) cap7)) bc #[.slice (some ⟨g7, 0, none⟩) (P ++ [(Vl.mk (4) (0) ⟨#[]⟩ acc)]).length cap7, .int .i64 0, .slice none 0 0] 26 ∧ OwnP (w7.setCell ⟨bc, 0, none⟩ (.slice (some ⟨g7, 0, none⟩) (P.length + 1) cap7)) (bc + 1) (.slice (some ⟨g7, 0, none⟩) (P ++ [(Vl.mk (4) (0) ⟨#[]⟩ acc)]).length cap7) (P ++ [(Vl.mk (4) (0) ⟨#[]⟩ acc)]) (nv ++ [.slice xn acc.length cn])) := hide (by rw [unhide HL]; exact ⟨RC9, OP9⟩)
            have HM9 : Hid ((P ++ [(Vl.mk (4) (0) ⟨#[]⟩ acc)] ++ (manyI valS k s6).1, (manyI valS k s6).2) = manyI valS K s2) := hide (by have := unhide HM; rw [unhide HVX] at this; exact this)
            clear hgrow hat O7 OP7 OP8 OP9 OP6 T6 RR7 RR8 RC9 RC8 RC7 RC6 OU6 OU7 NW S6 S7 S8 B8 lts RV6 RCj RRj OPj Sj Bj
            go_wp2_with fail
            go_roundw
            case rel => exact ⟨some ⟨g7, 0, none⟩, cap7, P ++ [(Vl.mk (4) (0) ⟨#[]⟩ acc)], nv ++ [.slice xn acc.length cn], s6, k, by go_num, (unhide HF).1, RR9, (unhide HF).2, by rw [unhide HL]; have := unhide Hk; omega, S9, HM9, B9, z9⟩
            case measure => (simp [intOf]; try omega)
          | succ j =>
            have ilt : (0 : Int) < ((j + 1 : Nat) : Int) := by omega
            have hMq := unhide HMq
            rw [manyS_step] at hMq
            have HMn := hide hMq
            have Hjq := hide hjq
            have hacc : acc.length ≤ 255 := by omega
            have hj5 : j ≤ 255 := by omega
            clear hMq HMq hjq
            have HTX := hide (fun W (hW : SRs W (w.heap.size + 1) sn) => stext_any (w.heap.size + 1) sn W hW)
            generalize textS sn = r at HTX HMn
            obtain ⟨tx, s8⟩ := r
            simp only at HMn
            have hOUb : ∀ q, (Value.slice xn acc.length cn).ownBlock = some q → vb + 1 ≤ q ∧ q < wr.heap.size := fun q hq => OUq.lt q hq
            have sd : wr.drew.cell? ⟨vb, 3, none⟩ = some (.slice xn acc.length cn) := c3
            have hnm : (Try.f14.name == "runtime.NumGoroutine") = false := by kernel_rfl
            have hbd : Try.f14.body.isNone = false := by kernel_rfl
            have HC := hide (retOf (unhide HTX wr.drew (Sq.blocks (w' := wr.drew) (fun _ _ => rfl) (Nat.le_refl _))) (fun e w' ⟨h, _⟩ => ⟨_, h⟩))
            go_wp2_with fail
            go_region_law (first
              | (refine step_callR rfl 14 _ Try.func14 hnm hbd _ _ rfl (.pointer (some ⟨w.heap.size + 1, 0, none⟩)) rfl _ (unhide HC) ?_; rintro v9 w9 ⟨hv9, S9, T9⟩; obtain rfl := ending_inj hv9; have T9u := T9.undrew; have RV9 := RVq.touch' T9u (.inr (by omega)); obtain ⟨e0, e1, e2, e3⟩ := rowV RV9; have ef := fun j => RV9.frozen j; have OU9 := World.ownsRow.alloc (owns_touch OUq T9u (fun q hq => .inr (by have := (hOUb q hq).1; omega))) (.cells #[.string tx] 9); have RVa := RV9.alloc (.cells #[.string tx] 9); obtain ⟨i0, i1, i2, i3⟩ := rowV RVa; have NW := World.news_of_block (heap_alloc_new w9 (.cells #[.string tx] 9)); have z9 := T9u.size)
              | (refine step_append_lies _ rfl _ _ 40 rfl (vb + 1) 9 is (.string ByteArray.empty) 1 16 Try.underlying40 his hs0 hs1 hs2 rfl (by decide) (.slice xn acc.length cn) acc.length (acc.map Value.string) rfl OU9 ⟨w9.heap.size, 0, none⟩ 1 1 [.string tx] rfl rfl NW (by intro u hu; simp at hu; subst hu; rfl) (by decide) (by unfold maxLen; omega) (by omega) (by simp; omega) _ rfl ?_; intro g8 cap8 w8 O8 hgrow hat hlt8; have RVb : Row w8 vb _ _ := ⟨(hgrow.block vb RVa.lt (fun e => by have := (hOUb _ e.symm).1; omega)).trans RVa.out⟩; have s8c : w8.cell? ⟨vb, 3, none⟩ = some (.slice xn acc.length cn) := (rowV RVb).2.2.2; have f8 := RVb.frozen 3))
            all_goals
              have S10 := ((S9.alloc (.cells #[.string tx] 9)).grown hgrow (fun q hq => by have := (hOUb q hq).1; omega)).setFar ⟨vb, 3, none⟩ (.slice (some ⟨g8, 0, none⟩) (acc.length + 1) cap8) (by show w.heap.size + 1 < vb; omega)
              have T10 := (((Tq.trans T9u).alloc (.cells #[.string tx] 9)).grown hgrow (fun q hq => by have := (hOUb q hq).1; omega)).setNew ⟨vb, 3, none⟩ (.slice (some ⟨g8, 0, none⟩) (acc.length + 1) cap8) (by show wo.heap.size ≤ vb; omega)
              have O10 := owns_setFar' O8 ⟨vb, 3, none⟩ (.slice (some ⟨g8, 0, none⟩) (acc.length + 1) cap8) (fun q hq => by have := (O8.lt q hq).1; show q ≠ vb; omega)
              have RV10 := RVb.set 3 (.slice (some ⟨g8, 0, none⟩) (acc.length + 1) cap8)
              simp only [List.setIfInBounds_toArray, List.set_cons_zero, List.set_cons_succ] at RV10
              have zg := hgrow.size
              simp only [World.size_alloc] at zg
              have z10 : vb < (w8.setCell ⟨vb, 3, none⟩ (.slice (some ⟨g8, 0, none⟩) (acc.length + 1) cap8)).heap.size := by simp; omega
              have HL := hide (show (acc ++ [tx]).length = acc.length + 1 by simp)
              have HF : Hid (Row (w8.setCell ⟨vb, 3, none⟩ (.slice (some ⟨g8, 0, none⟩) (acc.length + 1) cap8)) vb #[.int .i64 4, .int .i64 0, .string ⟨#[]⟩, .slice (some ⟨g8, 0, none⟩) (acc ++ [tx]).length cap8] 42 ∧ (w8.setCell ⟨vb, 3, none⟩ (.slice (some ⟨g8, 0, none⟩) (acc.length + 1) cap8)).ownsRow (vb + 1) 9 1 (.slice (some ⟨g8, 0, none⟩) (acc ++ [tx]).length cap8) (acc ++ [tx]).length ((acc ++ [tx]).map Value.string)) := hide (by rw [unhide HL, List.map_append]; exact ⟨RV10, O10⟩)
              clear hgrow hat O8 O10 RV10 RVb RVa RV9 OU9 NW T9 T9u S9 RVq OUq Sq Tq
              go_wp2_with fail
              go_roundw
              case rel => exact ⟨some ⟨g8, 0, none⟩, cap8, acc ++ [tx], s8, j, by go_num, (unhide HF).1, (unhide HF).2, S10, HMn, by rw [unhide HL]; have := unhide Hjq; omega, T10, z10⟩
              case measure => (simp [intOf]; try omega)
      · have HVK := hide (show valKS kv s5 = (⟨kv, 0, ⟨#[]⟩, []⟩, s5) by unfold valKS; rw [if_neg k1, if_neg k2, if_neg k3, if_neg k4]; rfl)
        have i1 : (kv == 1) = false := beq_eq_false_iff_ne.2 k1
        have i2 : (kv == 2) = false := beq_eq_false_iff_ne.2 k2
        have i3 : (kv == 3) = false := beq_eq_false_iff_ne.2 k3
        have i4 : (kv == 4) = false := beq_eq_false_iff_ne.2 k4
        have HVX := hide ((unhide HVV).trans (unhide HVK))
        have hokY : okV (valS (st, false)).1 := (valS_ok _ Sj.ok).1
        rw [unhide HVX] at hokY
        have RV6 := RV5
        have OU6 : W5.ownsRow wr.heap.size 9 1 (.slice none 0 0) 0 [] := World.ownsRow_nil _ _ _ _
        obtain ⟨s6, hs6⟩ : ∃ s6, s6 = s5 := ⟨_, rfl⟩
        rw [← hs6] at S5 HVX
        have S6 := S5
        have T6 := T5
        obtain ⟨d0, d1, d2⟩ := rowC (RCj.touch' T5 (.inr (by omega)))
        rw [unhide HW5] at d0 d1 d2
        have hz6 : W5.heap.size = w5.heap.size + 1 := by rw [unhide HW5]; simp
        have hne2 : bc ≠ w5.heap.size := by rw [← unhide Hvb]; omega
        have hne3 : w5.heap.size ≠ bc := by rw [← unhide Hvb]; omega
        clear RV5 S5 T5 hs6 HVV HVK
        obtain ⟨W6, hW6⟩ : ∃ W6, W6 = W5 := ⟨_, rfl⟩
        rw [← hW6] at RV6 OU6 S6 T6 hz6
        have HW6 := hide (hW6.trans (unhide HW5))
        clear hW6

        have OP6 := OPj.blocks (w' := W6) (fun k hk hk' => T6.block k hk' (.inr (by omega)))
        have lts := OPj.lts
        have RC6 := RCj.touch' T6 (.inr (by omega))
        have RR6 := RRj.touch' T6 (.inl (by omega))
        have z6 := T6.size
        have hne : bc ≠ vb := by omega
        have hne' : vb ≠ bc := by omega
        have OP7 := OP6.alloc (.cells #[.int .i64 kv, .int .i64 0, .string ⟨#[]⟩, .slice none 0 0] 42)
        have OU7 := World.ownsRow.alloc OU6 (.cells #[.int .i64 kv, .int .i64 0, .string ⟨#[]⟩, .slice none 0 0] 42)
        have RC7 := RC6.alloc (.cells #[.int .i64 kv, .int .i64 0, .string ⟨#[]⟩, .slice none 0 0] 42)
        have RR7 := RR6.alloc (.cells #[.int .i64 kv, .int .i64 0, .string ⟨#[]⟩, .slice none 0 0] 42)
        have S7 := S6.alloc (.cells #[.int .i64 kv, .int .i64 0, .string ⟨#[]⟩, .slice none 0 0] 42)
        have NW := World.news_of_block (heap_alloc_new W6 (.cells #[.int .i64 kv, .int .i64 0, .string ⟨#[]⟩, .slice none 0 0] 42))
        rw [hz6] at NW
        have hub : ∀ q, (Value.slice none 0 0).ownBlock = some q → wr.heap.size ≤ q := fun q hq => (OU6.lt q hq).1
        have HokY := hide hokY
        clear hokY
        go_wp2_with (at_builtin; rw [← unhide HW6]; refine wpList_append_lies _ rfl _ _ 23 rfl (bc + 1) 42 iv (.agg #[.int .i64 0, .int .i64 0, .string ByteArray.empty, .slice none 0 0]) 4 56 Try.underlying23 hiv hv0 hv1 hv2 rfl (by decide) (.slice x P.length cx) P.length (vlC P nv) rfl OP7.own ⟨w5.heap.size + 1, 0, none⟩ 1 1 (vl4 (Vl.mk (kv) (0) ⟨#[]⟩ ([] : List ByteArray)) (.slice none 0 0)) rfl rfl NW (by intro u hu; simp [vl4] at hu; rcases hu with rfl | rfl | rfl | rfl <;> rfl) (by decide) (by unfold maxLen; omega) (by omega) (by simp; omega) _ rfl ?_; intro g7 cap7 w7 O7 hgrow hat hlt7; have RC8 : Row w7 bc _ _ := ⟨(hgrow.block bc RC7.lt (fun e => by have := (lts.1 _ e.symm).1; omega)).trans RC7.out⟩; obtain ⟨t0, t1, t2⟩ := rowC RC8; have tf := fun j => RC8.frozen j)
        have hcb : ∀ q, (Value.slice x P.length cx).ownBlock = some q → bc + 1 ≤ q ∧ q < wr.heap.size := lts.1
        have OP8 : OwnP w7 (bc + 1) (.slice (some ⟨g7, 0, none⟩) (P.length + 1) cap7) (P ++ [(Vl.mk (kv) (0) ⟨#[]⟩ ([] : List ByteArray))]) (nv ++ [.slice none 0 0]) := OP7.snoc (ownsRow_low' OU7 (by omega)) (fun j hj q hq e => by have := (lts.2 j hj q hq).2; have := hub q e; omega) (fun q hq e => by have := (hcb q e).2; have := hub q hq; omega) O7 hgrow (fun q hq => by
          have e : g7 = q := by simpa [Value.ownBlock] using hq
          subst e
          rcases hat with e | e
          · exact .inl e
          · right; simp at e ⊢; omega)
        have S8 := S7.grown hgrow (fun q hq => by have := (hcb q hq).1; omega)
        have RR8 : Row w7 w.heap.size _ _ := ⟨(hgrow.block w.heap.size RR7.lt (fun e => by have := (hcb _ e.symm).1; omega)).trans RR7.out⟩
        have zg := hgrow.size
        simp only [World.size_alloc] at zg
        have B8 := ((below_touch Bj T6 (by omega) Bj.size).alloc (by omega) (.cells #[.int .i64 kv, .int .i64 0, .string ⟨#[]⟩, .slice none 0 0] 42)).grown hgrow (by simp; omega) (fun q hq => by have := (hcb q hq).1; omega)
        have RC9 := RC8.set 0 (.slice (some ⟨g7, 0, none⟩) (P.length + 1) cap7)
        simp only [List.setIfInBounds_toArray, List.set_cons_zero] at RC9
        have RR9 := RR8.setFar (p := ⟨bc, 0, none⟩) (by show w.heap.size ≠ bc; omega) (.slice (some ⟨g7, 0, none⟩) (P.length + 1) cap7)
        have S9 := S8.setFar ⟨bc, 0, none⟩ (.slice (some ⟨g7, 0, none⟩) (P.length + 1) cap7) (by show w.heap.size + 1 < bc; omega)
        have OP9 := OP8.set ⟨bc, 0, none⟩ (.slice (some ⟨g7, 0, none⟩) (P.length + 1) cap7) (by show bc < bc + 1; omega)
        have B9 := B8.setCell (p := ⟨bc, 0, none⟩) (by show w.heap.size ≤ bc; omega) (.slice (some ⟨g7, 0, none⟩) (P.length + 1) cap7)
        have z9 : bc < (w7.setCell ⟨bc, 0, none⟩ (.slice (some ⟨g7, 0, none⟩) (P.length + 1) cap7)).heap.size := by simp; omega
        have HL := hide (show (P ++ [(Vl.mk (kv) (0) ⟨#[]⟩ ([] : List ByteArray))]).length = P.length + 1 by simp)
        have HF : Hid (Row (w7.setCell ⟨bc, 0, none⟩ (.slice (some ⟨g7, 0, none⟩) (P.length + 1) cap7)) bc #[.slice (some ⟨g7, 0, none⟩) (P ++ [(Vl.mk (kv) (0) ⟨#[]⟩ ([] : List ByteArray))]).length cap7, .int .i64 0, .slice none 0 0] 26 ∧ OwnP (w7.setCell ⟨bc, 0, none⟩ (.slice (some ⟨g7, 0, none⟩) (P.length + 1) cap7)) (bc + 1) (.slice (some ⟨g7, 0, none⟩) (P ++ [(Vl.mk (kv) (0) ⟨#[]⟩ ([] : List ByteArray))]).length cap7) (P ++ [(Vl.mk (kv) (0) ⟨#[]⟩ ([] : List ByteArray))]) (nv ++ [.slice none 0 0])) := hide (by rw [unhide HL]; exact ⟨RC9, OP9⟩)
        have HM9 : Hid ((P ++ [(Vl.mk (kv) (0) ⟨#[]⟩ ([] : List ByteArray))] ++ (manyI valS k s6).1, (manyI valS k s6).2) = manyI valS K s2) := hide (by have := unhide HM; rw [unhide HVX] at this; exact this)
        clear hgrow hat O7 OP7 OP8 OP9 OP6 T6 RR7 RR8 RC9 RC8 RC7 RC6 OU6 OU7 NW S6 S7 S8 B8 lts RV6 RCj RRj OPj Sj Bj
        go_wp2_with fail
        go_roundw
        case rel => exact ⟨some ⟨g7, 0, none⟩, cap7, P ++ [(Vl.mk (kv) (0) ⟨#[]⟩ ([] : List ByteArray))], nv ++ [.slice none 0 0], s6, k, by go_num, (unhide HF).1, RR9, (unhide HF).2, by rw [unhide HL]; have := unhide Hk; omega, S9, HM9, B9, z9⟩
        case measure => (simp [intOf]; try omega)
      -- ] round1
    · have HM : Hid ((P, (st, bk)) = manyI valS K s2) := hide (by
        rw [← unhide hM]
        by_cases h0 : k = 0
        · subst h0; rw [manyI, List.append_nil]
        · have : bk = true := by
            cases bk
            · exact absurd ⟨Nat.pos_of_ne_zero h0, rfl⟩ hgo
            · rfl
          rw [manyI_stop _ _ _ this, List.append_nil])
      have hcond : k = 0 ∨ (0 : Int) < (k : Int) ∧ bk = true := by
        by_cases h0 : k = 0
        · left; omega
        · right
          refine ⟨by omega, ?_⟩
          cases bk
          · exact absurd ⟨Nat.pos_of_ne_zero h0, rfl⟩ hgo
          · rfl
      have HX2 := hide ((unhide HXB).trans (show _ = bnd (numS 2) (fun sl => bnd (numS 2) fun m => bnd (manyI insS m.toNat) fun i => rt (⟨P, sl, i⟩ : Cd)) (st, bk) by show bnd _ _ _ = _; rw [bnd, ← unhide HM]))
      have hP : P.length ≤ 65535 := by omega
      have okP : ∀ x ∈ P, okV x := by
        have := (manyI_all (f := valS) (p := okV) valS_ok K s2 hok2).1
        rw [← unhide HM] at this; exact this
      have HokP := hide okP
      have HN2 := hide (snum_2 (w.heap.size + 1) (st, bk) wr Sj)
      have hok3 : okB (numS 2 (st, bk)).2.1 := (takeS_ok 2 _ Sj.ok).2
      have HX3 := hide ((unhide HX2).trans (show bnd (numS 2) _ (st, bk) = bnd (numS 2) (fun m => bnd (manyI insS m.toNat) fun i => rt (⟨P, (numS 2 (st, bk)).1, i⟩ : Cd)) (numS 2 (st, bk)).2 from rfl))
      generalize numS 2 (st, bk) = r at HN2 HX3 hok3
      obtain ⟨sl, s3⟩ := r
      simp only at HX3 hok3
      clear hM hgo hk HM okP HX2
      rcases hcond with rfl | ⟨ilt, rfl⟩
      all_goals
        go_wp2_with fail
        refine (unhide HN2).mono ?_
        rintro e w5 ⟨rfl, S5, T5⟩
        simp only at S5
        have RC5' := RCj.touch' T5 (.inr (by omega))
        obtain ⟨c0, c1, c2⟩ := rowC RC5'
        have cf := fun j => RC5'.frozen j
        have RC5 := RC5'.set 1 (.int .i64 sl)
        simp only [List.setIfInBounds_toArray, List.set_cons_zero, List.set_cons_succ] at RC5
        have RR5 := (RRj.touch' T5 (.inl (by omega))).setFar (p := ⟨bc, 1, none⟩) (by show w.heap.size ≠ bc; omega) (.int .i64 sl)
        have OP5 := (OPj.touch T5 (by omega)).set ⟨bc, 1, none⟩ (.int .i64 sl) (by show bc < bc + 1; omega)
        have S6 := S5.setFar ⟨bc, 1, none⟩ (.int .i64 sl) (by show w.heap.size + 1 < bc; omega)
        have B6 := (below_touch Bj T5 (by omega) Bj.size).setCell (p := ⟨bc, 1, none⟩) (by show w.heap.size ≤ bc; omega) (.int .i64 sl)
        have z6 : bc < (w5.setCell ⟨bc, 1, none⟩ (.int .i64 sl)).heap.size := by have := T5.size; simp; omega
        clear RCj RRj OPj Bj Sj T5 S5 HN2 RC5'
        go_wp2_with fail
        generalize w5.setCell ⟨bc, 1, none⟩ (.int .i64 sl) = W6 at RC5 RR5 OP5 S6 B6 z6 ⊢
        clear c0 c1 c2 cf
        have HN2 := hide (snum_2 (w.heap.size + 1) s3 W6 S6)
        have hr2 := numS2_range s3 S6.ok
        have HX4 := hide ((unhide HX3).trans (show bnd (numS 2) _ s3 = bnd (manyI insS (numS 2 s3).1.toNat) (fun i => rt (⟨P, sl, i⟩ : Cd)) (numS 2 s3).2 from rfl))
        have hok4 : okB (numS 2 s3).2.1 := (takeS_ok 2 _ hok3).2
        clear HX3
        generalize numS 2 s3 = r at HN2 hr2 HX4 hok4
        obtain ⟨mi, s4⟩ := r
        simp only at hr2 HX4 hok4
        obtain ⟨M, rfl⟩ := Int.eq_ofNat_of_zero_le hr2.1
        have hM : M ≤ 65535 := by omega
        have HX5 := hide (show bodyS s1 = bnd (manyI insS M) (fun i => rt (⟨P, sl, i⟩ : Cd)) s4 by rw [unhide HX4, Int.toNat_natCast])
        clear HX4 hr2
        refine (unhide HN2).mono ?_
        rintro e w7 ⟨rfl, S7, T7⟩
        simp only at S7
        have RC7 := RC5.touch' T7 (.inr (by omega))
        have RR7 := RR5.touch' T7 (.inl (by omega))
        have OP7 := OP5.touch T7 (by omega)
        have B7 := below_touch B6 T7 (by omega) B6.size
        have z7 : bc < w7.heap.size := Nat.lt_of_lt_of_le z6 T7.size
        clear RC5 RR5 OP5 S6 B6 z6 T7 HN2
        go_wp2_with fail
        go_loopw [9] (fun nn wr => ∃ (y : Option Addr) (cy : Nat) (I : List Is1) (st : Rs) (k : Nat), nn = .int .i64 k ∧ Row wr bc #[.slice x P.length cx, .int .i64 sl, .slice y I.length cy] 26 ∧ Row wr w.heap.size #[.slice none 0 0, .int .i64 0, .slice none 0 0] 26 ∧ OwnP wr (bc + 1) (.slice x P.length cx) P nv ∧ wr.ownsRow (bc + 1) 45 2 (.slice y I.length cy) I.length (inC I) ∧ (∀ q, (Value.slice y I.length cy).ownBlock = some q → (Value.slice x P.length cx).ownBlock ≠ some q ∧ ∀ j, (hj : j < nv.length) → nv[j].ownBlock ≠ some q) ∧ I.length + k ≤ M ∧ SRs wr (w.heap.size + 1) st ∧ Hid ((I ++ (manyI insS k st).1, (manyI insS k st).2) = manyI insS M s4) ∧ Below w.heap.size w wr ∧ bc < wr.heap.size) (fun nn wr => (intOf nn).toNat)
        case atStart => exact ⟨none, 0, [], s4, M, rfl, RC7, RR7, OP7, World.ownsRow_nil _ _ _ _, (fun q hq => by cases hq), by simp, S7, hide (by simp), B7, z7⟩
        case round =>
          clear RC7 RR7 OP7 S7 B7 z7
          obtain ⟨y, cy, I, ⟨st, bk⟩, k, rfl, RCj, RRj, OPj, OIj, apj, hk, Sj, hMM, Bj, zj⟩ := hrel
          have q1 := Sj.cells
          simp only at q1
          by_cases hgo : 0 < k ∧ bk = false
          · obtain ⟨hk0, rfl⟩ := hgo
            -- [ round2
            obtain ⟨k, rfl⟩ : ∃ k', k = k' + 1 := ⟨k - 1, by omega⟩
            have ilt : (0 : Int) < ((k + 1 : Nat) : Int) := by omega
            have hM1 := unhide hMM
            rw [manyI_step _ _ _ rfl] at hM1
            have HM := hide hM1
            have Hk := hide hk
            have hI : I.length ≤ 65534 := by omega
            have hkK : k ≤ 65535 := by omega
            clear hM1 hMM hk hk0
            have HN1 := hide (snum_1 (w.heap.size + 1) (st, false) wr Sj)
            have HIS := hide (show insS (st, false) = (⟨(numS 1 (st, false)).1, (numS 2 (numS 1 (st, false)).2).1⟩, (numS 2 (numS 1 (st, false)).2).2) from rfl)
            have hr1 := numS1_range _ Sj.ok
            have hokn : okB (numS 1 (st, false)).2.1 := (takeS_ok 1 _ Sj.ok).2
            generalize numS 1 (st, false) = r at HN1 HIS hr1 hokn
            obtain ⟨op, s5⟩ := r
            simp only at HIS hr1 hokn
            have hr10 := hr1.1
            have hr11 := hr1.2
            clear hr1
            go_wp2_with fail
            refine (unhide HN1).mono ?_
            rintro e w5 ⟨rfl, S5, T5⟩
            simp only at S5
            have RC5 := RCj.touch' T5 (.inr (by omega))
            have RR5 := RRj.touch' T5 (.inl (by omega))
            have OP5 := OPj.touch T5 (by omega)
            have hOIb : ∀ q, (Value.slice y I.length cy).ownBlock = some q → bc + 1 ≤ q := fun q hq => (OIj.lt q hq).1
            have OI5 := owns_touch OIj T5 (fun q hq => .inr (by have := hOIb q hq; omega))
            have B5 := below_touch Bj T5 (by omega) Bj.size
            have z5 : bc < w5.heap.size := Nat.lt_of_lt_of_le zj T5.size
            obtain ⟨d0, d1, d2⟩ := rowC RC5
            clear RCj RRj OPj OIj Bj zj HN1 T5 Sj
            have HN2 := hide (fun W (hW : SRs W (w.heap.size + 1) s5) => snum_2 (w.heap.size + 1) s5 W hW)
            have hr2 := numS2_range s5 hokn
            generalize numS 2 s5 = r2 at HN2 HIS hr2
            obtain ⟨ag, s6⟩ := r2
            simp only at HIS hr2
            have hr20 := hr2.1
            have hr21 := hr2.2
            clear hr2
            go_wp2_with fail
            have sd : w5.drew.cell? ⟨bc, 2, none⟩ = some (.slice y I.length cy) := d2
            have hnm : (Try.f13.name == "runtime.NumGoroutine") = false := by kernel_rfl
            have hbd : Try.f13.body.isNone = false := by kernel_rfl
            have HC := hide (retOf (unhide HN2 w5.drew (S5.blocks (w' := w5.drew) (fun _ _ => rfl) (Nat.le_refl _))) (fun e w' ⟨h, _⟩ => ⟨_, h⟩))
            go_region_law (first
              | (refine step_callR2 rfl 13 _ Try.func13 hnm hbd _ _ _ rfl (.pointer (some ⟨w.heap.size + 1, 0, none⟩)) (.int .i64 2) rfl rfl _ (unhide HC) ?_; rintro v6 w6 ⟨hv6, S6, T6⟩; obtain rfl := ending_inj hv6; have T6u := T6.undrew; have RC6 := RC5.touch' T6u (.inr (by omega)); obtain ⟨e0, e1, e2⟩ := rowC RC6; have ef := fun j => RC6.frozen j; have OI6 := World.ownsRow.alloc (owns_touch OI5 T6u (fun q hq => .inr (by have := hOIb q hq; omega))) (.cells #[.int .i64 op, .int .i64 ag] 45); have RC7 := RC6.alloc (.cells #[.int .i64 op, .int .i64 ag] 45); obtain ⟨i0, i1, i2⟩ := rowC RC7; have NW := World.news_of_block (heap_alloc_new w6 (.cells #[.int .i64 op, .int .i64 ag] 45)); have z6 := T6u.size)
              | (refine step_append_lies _ rfl _ _ 24 rfl (bc + 1) 45 ii (.agg #[.int .i64 0, .int .i64 0]) 2 16 Try.underlying24 hii hi0 hi1 hi2 rfl (by decide) (.slice y I.length cy) I.length (inC I) rfl OI6 ⟨w6.heap.size, 0, none⟩ 1 1 [.int .i64 op, .int .i64 ag] rfl rfl NW (by intro u hu; simp at hu; rcases hu with rfl | rfl <;> rfl) (by decide) (by unfold maxLen; omega) (by omega) (by simp; omega) _ rfl ?_; intro g8 cap8 w8 O8 hgrow hat hlt8; have RC8 : Row w8 bc _ _ := ⟨(hgrow.block bc RC7.lt (fun e => by have := hOIb _ e.symm; omega)).trans RC7.out⟩; have s8 : w8.cell? ⟨bc, 2, none⟩ = some (.slice y I.length cy) := (rowC RC8).2.2; have f8 := RC8.frozen 2))
            all_goals
              have RR7 := (RR5.touch' T6u (.inl (by omega))).alloc (.cells #[.int .i64 op, .int .i64 ag] 45)
              have RR8 : Row w8 w.heap.size _ _ := ⟨(hgrow.block w.heap.size RR7.lt (fun e => by have := hOIb _ e.symm; omega)).trans RR7.out⟩
              have OP7 := (OP5.touch T6u (by omega)).alloc (.cells #[.int .i64 op, .int .i64 ag] 45)
              have lts := OP7.lts
              have OP8 := OP7.grown hgrow (fun q hq => apj q hq)
              have B8 := ((below_touch B5 T6u (by omega) B5.size).alloc (by omega) (.cells #[.int .i64 op, .int .i64 ag] 45)).grown hgrow (by simp; omega) (fun q hq => by have := hOIb q hq; omega)
              have S8 := (S6.alloc (.cells #[.int .i64 op, .int .i64 ag] 45)).grown hgrow (fun q hq => by have := hOIb q hq; omega)
              have zg := hgrow.size
              simp only [World.size_alloc] at zg lts
              have ap8 : ∀ q, (Value.slice (some ⟨g8, 0, none⟩) (I.length + 1) cap8).ownBlock = some q → (Value.slice x P.length cx).ownBlock ≠ some q ∧ ∀ j, (hj : j < nv.length) → nv[j].ownBlock ≠ some q := fun q hq => by
                have e : g8 = q := by simpa [Value.ownBlock] using hq
                subst e
                rcases hat with e | e
                · exact apj _ e
                · simp at e
                  exact ⟨fun h => by have := (lts.1 _ h).2; omega, fun j hj h => by have := (lts.2 j hj _ h).2; omega⟩
              have RC9 := RC8.set 2 (.slice (some ⟨g8, 0, none⟩) (I.length + 1) cap8)
              simp only [List.setIfInBounds_toArray, List.set_cons_zero, List.set_cons_succ] at RC9
              have RR9 := RR8.setFar (p := ⟨bc, 2, none⟩) (by show w.heap.size ≠ bc; omega) (.slice (some ⟨g8, 0, none⟩) (I.length + 1) cap8)
              have S9 := S8.setFar ⟨bc, 2, none⟩ (.slice (some ⟨g8, 0, none⟩) (I.length + 1) cap8) (by show w.heap.size + 1 < bc; omega)
              have B9 := B8.setCell (p := ⟨bc, 2, none⟩) (by show w.heap.size ≤ bc; omega) (.slice (some ⟨g8, 0, none⟩) (I.length + 1) cap8)
              have OP9 := OP8.set ⟨bc, 2, none⟩ (.slice (some ⟨g8, 0, none⟩) (I.length + 1) cap8) (by show bc < bc + 1; omega)
              have O9 := owns_setFar' O8 ⟨bc, 2, none⟩ (.slice (some ⟨g8, 0, none⟩) (I.length + 1) cap8) (fun q hq => by have := (O8.lt q hq).1; show q ≠ bc; omega)
              have z9 : bc < (w8.setCell ⟨bc, 2, none⟩ (.slice (some ⟨g8, 0, none⟩) (I.length + 1) cap8)).heap.size := by simp; omega
              have HL := hide (show (I ++ [Is1.mk op ag]).length = I.length + 1 by simp)
              have HM9 : Hid ((I ++ [Is1.mk op ag] ++ (manyI insS k s6).1, (manyI insS k s6).2) = manyI insS M s4) := hide (by have := unhide HM; rw [unhide HIS] at this; exact this)
              have HF : Hid (Row (w8.setCell ⟨bc, 2, none⟩ (.slice (some ⟨g8, 0, none⟩) (I.length + 1) cap8)) bc #[.slice x P.length cx, .int .i64 sl, .slice (some ⟨g8, 0, none⟩) (I ++ [Is1.mk op ag]).length cap8] 26 ∧ (w8.setCell ⟨bc, 2, none⟩ (.slice (some ⟨g8, 0, none⟩) (I.length + 1) cap8)).ownsRow (bc + 1) 45 2 (.slice (some ⟨g8, 0, none⟩) (I ++ [Is1.mk op ag]).length cap8) (I ++ [Is1.mk op ag]).length (inC (I ++ [Is1.mk op ag])) ∧ (∀ q, (Value.slice (some ⟨g8, 0, none⟩) (I ++ [Is1.mk op ag]).length cap8).ownBlock = some q → (Value.slice x P.length cx).ownBlock ≠ some q ∧ ∀ j, (hj : j < nv.length) → nv[j].ownBlock ≠ some q)) := hide (by rw [unhide HL, inC_snoc]; exact ⟨RC9, O9, ap8⟩)
              clear hgrow hat O8 O9 OP7 OP8 S8 RR7 RR8 RC9 RC8 RC7 RC6 OI6 OI5 OP5 NW T6 T6u S6 S5 RC5 RR5 B5 B8 lts ap8 apj
              go_wp2_with fail
              go_roundw
              case rel => exact ⟨some ⟨g8, 0, none⟩, cap8, I ++ [Is1.mk op ag], s6, k, by go_num, (unhide HF).1, RR9, OP9, (unhide HF).2.1, (unhide HF).2.2, by rw [unhide HL]; have := unhide Hk; omega, S9, HM9, B9, z9⟩
              case measure => (simp [intOf]; try omega)
            -- ] round2
          · have HM : Hid ((I, (st, bk)) = manyI insS M s4) := hide (by
              rw [← unhide hMM]
              by_cases h0 : k = 0
              · subst h0; rw [manyI, List.append_nil]
              · have : bk = true := by
                  cases bk
                  · exact absurd ⟨Nat.pos_of_ne_zero h0, rfl⟩ hgo
                  · rfl
                rw [manyI_stop _ _ _ this, List.append_nil])
            have hcond : k = 0 ∨ (0 : Int) < (k : Int) ∧ bk = true := by
              by_cases h0 : k = 0
              · left; omega
              · right
                refine ⟨by omega, ?_⟩
                cases bk
                · exact absurd ⟨Nat.pos_of_ne_zero h0, rfl⟩ hgo
                · rfl
            have HX6 := hide (show bodyS s1 = (⟨P, sl, I⟩, (st, bk)) by rw [unhide HX5]; show bnd _ _ _ = _; rw [bnd, ← unhide HM]; rfl)
            have hIl : I.length ≤ 65535 := by omega
            have HXX := unhide HX
            rw [unhide HX6] at HXX
            simp only at HXX
            have HX7 := hide HXX
            clear hMM hgo hk HM HX5 HXX HX6
            obtain ⟨a3, n3, k3, RG3, BY3⟩ := id Sj
            obtain ⟨p0, p1⟩ := row2' RG3
            have Hn3 := hide BY3.len
            have hsm := BY3.small
            have hcap := BY3.cap
            simp only at p1 Hn3
            obtain ⟨c0, c1, c2⟩ := rowC RCj
            obtain ⟨e0, e1, e2⟩ := rowC RRj
            have ef := fun j => RRj.frozen j
            have V3 := OPj.vls rfl hP (unhide HokP)
            have I3 := iss_of_owns OIj rfl hIl
            have HEN := hide (sEncode_any x y P.length cx I.length cy sl P I wr V3 I3)
            have Hlen := hide (encR_len P sl I)
            have Hokr := hide (okB_encR P sl I)
            clear BY3 RG3 V3 I3
            have hbad : bk = true → decS L = none := fun e => by
              rw [unhide HX7, if_neg]
              rintro ⟨h, _⟩
              injection h with _ h
              rw [e] at h; cases h
            have hrest : n3 ≠ 0 → decS L = none := fun e => by
              rw [unhide HX7, if_neg]
              rintro ⟨h, _⟩
              injection h with h1 _
              apply e
              rw [← unhide Hn3, h1]; rfl
            have hgood : bk = false → n3 = 0 → decS L = if encR P sl I ≠ [] ∧ encR P sl I = L then some ⟨P, sl, I⟩ else none := fun e1 e2 => by
              have : st = [] := List.eq_nil_of_length_eq_zero (by rw [unhide Hn3, e2])
              rw [unhide HX7, this, e1]
              simp only [true_and]
            have Hbad := hide hbad
            have Hrest := hide hrest
            have Hgood := hide hgood
            clear hbad hrest hgood HX7
            generalize encR P sl I = R at HEN Hlen Hokr Hgood
            rcases hcond with rfl | ⟨ilt, rfl⟩
            · cases bk with
              | true =>
                have HD := hide (unhide Hbad rfl)
                go_wp2_with fail
                have RF := ((RRj.set 0 (.slice none 0 0)).set 1 (.int .i64 0)).set 2 (.slice none 0 0)
                simp only [List.setIfInBounds_toArray, List.set_cons_zero, List.set_cons_succ] at RF
                obtain ⟨g0, g1, g2⟩ := rowC RF
                refine bodyPost_ret (res_cb Try.results4 rfl g0 g1 g2) rfl ?_
                rw [unhide HD]
                exact DcAns.no (((Bj.setCell (p := ⟨w.heap.size, 0, none⟩) (Nat.le_refl _) _).setCell (p := ⟨w.heap.size, 1, none⟩) (Nat.le_refl _) _).setCell (p := ⟨w.heap.size, 2, none⟩) (Nat.le_refl _) _)
              | false =>
                by_cases hz : n3 = 0
                · subst hz
                  have HD0 := hide (unhide Hgood rfl rfl)
                  go_wp2_with fail
                  refine (unhide HEN).mono ?_
                  rintro e w8 ⟨v8, rfl, ow8, hb8⟩
                  obtain ⟨xr, cr, rfl⟩ := bytes_form ow8
                  have RC8 := RCj.after hb8 (Nat.le_refl _)
                  have RR8 := RRj.after hb8 (Nat.le_refl _)
                  have OP8 := OPj.blocks (w' := w8) (fun k _ hk => hb8.block k hk)
                  have OI8 := own_below' OIj hb8 (Nat.le_refl _)
                  have B8 := Bj.trans (hb8.mono Bj.size)
                  have cv1 := conv_own ow8 rfl
                  have cv2 := conv_bys (h.blocks (fun k hk _ => B8.block k hk) B8.size)
                  obtain ⟨f0, f1, f2⟩ := rowC RR8
                  obtain ⟨t0, t1, t2⟩ := rowC RC8
                  have ff := fun j => RR8.frozen j
                  clear e0 e1 e2 ef c0 c1 c2 p0 p1 q1 RCj RRj OPj OIj Bj hb8 HEN
                  by_cases hR0 : R = []
                  · subst hR0
                    have HD := hide (show decS L = none by rw [unhide HD0, if_neg (fun h => h.1 rfl)])
                    go_wp2_with fail
                    have RF := ((RR8.set 0 (.slice none 0 0)).set 1 (.int .i64 0)).set 2 (.slice none 0 0)
                    simp only [List.setIfInBounds_toArray, List.set_cons_zero, List.set_cons_succ] at RF
                    obtain ⟨g0, g1, g2⟩ := rowC RF
                    refine bodyPost_ret (res_cb Try.results4 rfl g0 g1 g2) rfl ?_
                    rw [unhide HD]
                    exact DcAns.no (((B8.setCell (p := ⟨w.heap.size, 0, none⟩) (Nat.le_refl _) _).setCell (p := ⟨w.heap.size, 1, none⟩) (Nat.le_refl _) _).setCell (p := ⟨w.heap.size, 2, none⟩) (Nat.le_refl _) _)
                  · have hl0 : ¬ ((R.length : Int) = 0) := by
                      intro e
                      apply hR0
                      exact List.eq_nil_of_length_eq_zero (by omega)
                    have il0 : ((R.length : Int) == 0) = false := beq_eq_false_iff_ne.2 hl0
                    by_cases hRL : R = L
                    · have HD := hide (show decS L = some ⟨P, sl, I⟩ by rw [unhide HD0, if_pos ⟨hR0, hRL⟩])
                      have hbs : bstr R = bstr L := by rw [hRL]
                      rw [hbs] at cv1
                      clear hbs hRL
                      go_wp2_with fail
                      have RF := ((RR8.set 0 (.slice x P.length cx)).set 1 (.int .i64 sl)).set 2 (.slice y I.length cy)
                      simp only [List.setIfInBounds_toArray, List.set_cons_zero, List.set_cons_succ] at RF
                      obtain ⟨g0, g1, g2⟩ := rowC RF
                      refine bodyPost_ret (res_cb Try.results4 rfl g0 g1 g2) rfl ?_
                      rw [unhide HD]
                      have b0 : w.heap.size < bc + 1 := by omega
                      have far : ∀ q, (Value.slice y I.length cy).ownBlock = some q → q ≠ w.heap.size := fun q hq => by have := (OI8.lt q hq).1; omega
                      exact ⟨x, cx, y, cy, nv, rfl, (((OP8.set ⟨w.heap.size, 0, none⟩ _ b0).set ⟨w.heap.size, 1, none⟩ _ b0).set ⟨w.heap.size, 2, none⟩ _ b0).low (by omega), ownsRow_low' (owns_setFar' (owns_setFar' (owns_setFar' OI8 ⟨w.heap.size, 0, none⟩ _ far) ⟨w.heap.size, 1, none⟩ _ far) ⟨w.heap.size, 2, none⟩ _ far) (by omega), apj, ((B8.setCell (p := ⟨w.heap.size, 0, none⟩) (Nat.le_refl _) _).setCell (p := ⟨w.heap.size, 1, none⟩) (Nat.le_refl _) _).setCell (p := ⟨w.heap.size, 2, none⟩) (Nat.le_refl _) _⟩
                    · have hbs : bstr R ≠ bstr L := fun e => hRL (bstr_inj (unhide Hokr) h.ok e)
                      have itl : ((bstr R).toList == (bstr L).toList) = false := beq_eq_false_iff_ne.2 (fun e => hbs (tl_inj e))
                      have HD := hide (show decS L = none by rw [unhide HD0, if_neg (fun h => hRL h.2)])
                      clear hbs
                      go_wp2_with fail
                      have RF := ((RR8.set 0 (.slice none 0 0)).set 1 (.int .i64 0)).set 2 (.slice none 0 0)
                      simp only [List.setIfInBounds_toArray, List.set_cons_zero, List.set_cons_succ] at RF
                      obtain ⟨g0, g1, g2⟩ := rowC RF
                      refine bodyPost_ret (res_cb Try.results4 rfl g0 g1 g2) rfl ?_
                      rw [unhide HD]
                      exact DcAns.no (((B8.setCell (p := ⟨w.heap.size, 0, none⟩) (Nat.le_refl _) _).setCell (p := ⟨w.heap.size, 1, none⟩) (Nat.le_refl _) _).setCell (p := ⟨w.heap.size, 2, none⟩) (Nat.le_refl _) _)
                · have hpos : (0 : Int) < (n3 : Int) := by omega
                  have HD := hide (unhide Hrest hz)
                  go_wp2_with fail
                  have RF := ((RRj.set 0 (.slice none 0 0)).set 1 (.int .i64 0)).set 2 (.slice none 0 0)
                  simp only [List.setIfInBounds_toArray, List.set_cons_zero, List.set_cons_succ] at RF
                  obtain ⟨g0, g1, g2⟩ := rowC RF
                  refine bodyPost_ret (res_cb Try.results4 rfl g0 g1 g2) rfl ?_
                  rw [unhide HD]
                  exact DcAns.no (((Bj.setCell (p := ⟨w.heap.size, 0, none⟩) (Nat.le_refl _) _).setCell (p := ⟨w.heap.size, 1, none⟩) (Nat.le_refl _) _).setCell (p := ⟨w.heap.size, 2, none⟩) (Nat.le_refl _) _)
            · have HD := hide (unhide Hbad rfl)
              go_wp2_with fail
              have RF := ((RRj.set 0 (.slice none 0 0)).set 1 (.int .i64 0)).set 2 (.slice none 0 0)
              simp only [List.setIfInBounds_toArray, List.set_cons_zero, List.set_cons_succ] at RF
              obtain ⟨g0, g1, g2⟩ := rowC RF
              refine bodyPost_ret (res_cb Try.results4 rfl g0 g1 g2) rfl ?_
              rw [unhide HD]
              exact DcAns.no (((Bj.setCell (p := ⟨w.heap.size, 0, none⟩) (Nat.le_refl _) _).setCell (p := ⟨w.heap.size, 1, none⟩) (Nat.le_refl _) _).setCell (p := ⟨w.heap.size, 2, none⟩) (Nat.le_refl _) _)

end Go.Proofs.Ytmkoidbpkhiohaa

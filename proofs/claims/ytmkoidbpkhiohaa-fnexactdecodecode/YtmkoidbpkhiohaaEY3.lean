/-
  The model's encoder: the walk. Own work.
-/
import Derived.Test.YtmkoidbpkhiohaaEY2
import Derived.Lib.SmallJoins
import Derived.ArgAppend
namespace Go.Proofs.Ytmkoidbpkhiohaa
open Go.RowKit Go.Lib
set_option linter.unusedVariables false

theorem ownsRow_wid {w : World} {base : Nat} {e : TypeId} {size : Nat} {v : Value} {n : Nat} {xs : List Value} (h : w.ownsRow base e size v n xs) : v.ownBlock ≠ some w.heap.size := fun k => by have := (h.lt _ k).2; omega

/-- one byte more, in a plain region -/
theorem wpList_app1 {ops : Array Oper} {rest : List Oper} {o : Oper} {a : Act} {Q : Exit → Act → World → Prop} {W : World} (B : Nat) (hgd : o.guard = none) (s y : Operand)
    (ho : o.op = .call { callee := .builtin .append, args := #[s, y], argTypes := #[22, 22] }) (x : Option Addr) (O : List Int) (c : Nat) (b : Int) (hs : a.eval s = .slice x O.length c)
    (ow : W.ownsRow B 5 1 (.slice x O.length c) O.length (bytesV O)) (A : Nat) (hA : A = W.heap.size) (hy : a.eval y = .slice (some ⟨A, 0, none⟩) 1 1) (hO : O.length ≤ 100000000) (hB : B ≤ W.heap.size)
    (h : ∀ g cap w', w'.ownsRow B 5 1 (.slice (some ⟨g, 0, none⟩) (O.length + 1) cap) (O ++ [b]).length (bytesV (O ++ [b])) → Kp W (.slice x O.length c) w' (.slice (some ⟨g, 0, none⟩) (O.length + 1) cap) → Below B W w' → wpList Try.prog ops Q rest (a.put o.dst (.slice (some ⟨g, 0, none⟩) (O.length + 1) cap)) w') :
    wpList Try.prog ops Q (o :: rest) a (W.alloc (.cells #[.int .u8 b] 5)) := by
  obtain ⟨i, hi, hz0, hz1, hz2⟩ := info_parts infoB
  subst hA
  refine wpList_append_lies _ hgd s y 22 ho B 5 i (.int .u8 0) 1 1 Try.underlying22 hi hz0 hz1 hz2 rfl (by decide) (.slice x O.length c) O.length (bytesV O) hs (World.ownsRow.alloc ow _) ⟨W.heap.size, 0, none⟩ 1 1 [.int .u8 b] hy rfl (World.news_of_block (heap_alloc_new W _)) (by intro u hu; simp at hu; subst hu; rfl) (by decide) (by unfold maxLen; omega) (by omega) (by simp; omega) _ rfl ?_
  intro g cap w3 O3 hgrow hat hgl
  refine h g cap w3 (bytes_snoc O3) (kp_append hgrow (by simpa using hat)) ?_
  exact ((Below.refl B W).alloc hB _).grown hgrow (by simp; omega) (fun q hq => (ow.lt q hq).1)

theorem u64byte (x : Int) : ∀ j, j ≤ 7 → IntKind.u64.wrap x / 2 ^ (8 * j) % 256 = byteAt x j := by
  intro j hj
  have hw : IntKind.u64.wrap x = x % 18446744073709551616 := by simp [IntKind.wrap, IntKind.bits, IntKind.signed]
  rw [hw, byteAt]
  have : j = 0 ∨ j = 1 ∨ j = 2 ∨ j = 3 ∨ j = 4 ∨ j = 5 ∨ j = 6 ∨ j = 7 := by omega
  rcases this with rfl | rfl | rfl | rfl | rfl | rfl | rfl | rfl <;> simp <;> omega

/-- the first two bytes more, behind a constant -/
theorem l5two_grow (x : Addr) (O : List Int) (n : Int) (w : World) (hc : ∀ j u, (bytesV O)[j]? = some u → w.cell? (x.add j) = some u) (hO : O.length ≤ 100) :
    Calls Try.prog 25 #[.slice (some x) O.length O.length, .int .i64 n] w fun e w' => ∃ v', e = .returned v' ∧ w'.ownsRow w.heap.size 5 1 v' (O ++ beB n 2).length (bytesV (O ++ beB n 2)) ∧ Below w.heap.size w w' := by
  obtain ⟨i, hi, hz0, hz1, hz2⟩ := info_parts infoB
  go_enter Try.func25, Try.ntmps25
  go_wp2_with (at_builtin; refine wpList_append_grows _ rfl _ _ 22 rfl 5 i (.int .u8 0) 1 1 Try.underlying22 hi hz0 hz1 hz2 rfl (by decide) (some x) O.length O.length (bytesV O) rfl (fun h => by cases h) (by simp [bytesV]) ?a1 ⟨w.heap.size, 0, none⟩ 2 2 [.int .u8 (n / 256 % 256), .int .u8 (n % 256)] rfl rfl ?a2 ?a3 ?a4 ?a5 ?a6 ?_)
  case a1 =>
    intro b hb j u hu
    cases hb
    have := hc j u hu
    rw [← this]
    exact World.cell?_alloc_lt _ _ _ (World.block_lt_of_cell? w _ this)
  case a2 => exact World.news_of_block (heap_alloc_new w _)
  case a3 => intro u hu; simp at hu; rcases hu with rfl | rfl <;> rfl
  case a4 => omega
  case a5 => unfold maxLen; omega
  case a6 => omega
  intro v' w3 O3 hgrow
  have B3 := ((Below.refl w.heap.size w).alloc (Nat.le_refl _) (.cells #[.int .u8 (n / 256 % 256), .int .u8 (n % 256)] 5)).grown hgrow (by simp) (fun q hq => by cases hq)
  have O4 := bytes_two O3
  rw [← beB2] at O4
  obtain ⟨x4, c4, rfl⟩ := bytes_form O3
  clear hgrow
  go_wp2_with fail
  go_ret
  exact ⟨_, rfl, ownsRow_low' O4 (by simp), B3⟩

set_option maxRecDepth 100000 in
set_option maxHeartbeats 6400000 in
theorem sEncode_any (a b : Option Addr) (n c m d : Nat) (s : Int) (P : List Vl) (I : List Is1) (w : World) (hV : Vls w a n c P) (hI : Iss w b m d I) :
    Calls Try.prog 15 #[.agg #[.slice a n c, .int .i64 s, .slice b m d]] w fun e w' => EncAns w (encR P s I) e w' := by
  have hn := hV.small
  have hm := hI.small
  have HP := hide hV.len
  have HI := hide hI.len
  have HS := hide (show shapB P s I = true → n ≤ 4000 ∧ m ≤ 20000 ∧ P.all valB = true from fun h => by
    rw [shapB, Bool.and_eq_true, Bool.and_eq_true, hV.len, hI.len] at h
    have := of_decide_eq_true h.1.1
    exact ⟨this.1, this.2.1, h.1.2⟩)
  have HR := hide (show encR P s I = if shapB P s I then codeE P s I else [] from rfl)
  have HC := hide (show codeE P s I = [80, 76, 49] ++ beB n 2 ++ P.flatMap valE ++ beB s 2 ++ beB m 2 ++ I.flatMap insE by rw [codeE, hV.len, hI.len])
  have R0 := Row.new w #[.slice a n c, .int .i64 s, .slice b m d] 26
  have B0 := (Below.refl w.heap.size w).alloc (Nat.le_refl _) (.cells #[.slice a n c, .int .i64 s, .slice b m d] 26)
  have V0 := hV.below B0 (Nat.le_refl _)
  have I0 := hI.below B0 (Nat.le_refl _)
  generalize hsh : shapB P s I = sh at HS HR
  have Hsh := hide hsh
  clear hsh
  go_enter Try.func15, Try.ntmps15
  cases sh
  · have HX := hide (show encR P s I = [] by rw [unhide HR]; rfl)
    go_wp2_with (go_at_call 24; refine (l5shape_any _ _ _ _ _ _ _ P I _ V0 I0).mono ?_; rintro e w2 ⟨rfl, hb2⟩; rw [unhide Hsh])
    go_ret
    exact ⟨_, rfl, by rw [unhide HX]; exact World.ownsRow_nil _ _ _ _, B0.trans (hb2.mono B0.size)⟩
  · have HX := hide (show encR P s I = codeE P s I by rw [unhide HR]; rfl)
    obtain ⟨hn4, hm2, hok⟩ := unhide HS rfl
    go_wp2_with (go_at_call 24; refine (l5shape_any _ _ _ _ _ _ _ P I _ V0 I0).mono ?_; rintro e w2 ⟨rfl, hb2⟩; rw [unhide Hsh]; obtain ⟨q0, q1, q2⟩ := rowC (R0.after hb2 (Nat.le_refl _)); have R2 := R0.after hb2 (Nat.le_refl _); have E2 := B0.trans (hb2.mono B0.size); have cv := Go.Joins.run_convert_bytes_const_at (P := Try.prog) w2 22 5 #[.int .u8 80, .int .u8 76, .int .u8 49] 3 3 w2.heap.size rfl Try.underlying22 Try.underlying5; obtain ⟨p0, p1, p2⟩ := rowC (R2.alloc (.cells #[.int .u8 80, .int .u8 76, .int .u8 49] 5 (3, 4))))
    have C2 := (Below.refl w2.heap.size w2).alloc (Nat.le_refl _) (.cells #[.int .u8 80, .int .u8 76, .int .u8 49] 5 (3, 4))
    refine (l5two_grow ⟨w2.heap.size, 0, none⟩ [80, 76, 49] n _ (World.news_of_block (heap_alloc_new w2 (.cells #[.int .u8 80, .int .u8 76, .int .u8 49] 5 (3, 4)))) (by decide)).mono ?_
    rintro e w3 ⟨v3, rfl, ow3, hb3⟩
    have R3 := (R2.alloc (.cells #[.int .u8 80, .int .u8 76, .int .u8 49] 5 (3, 4))).after hb3 (Nat.le_refl _)
    have E3 := E2.trans ((C2.trans (hb3.mono C2.size)).mono E2.size)
    obtain ⟨O2, HO2⟩ : ∃ O2, Hid ([80, 76, 49] ++ beB n 2 = O2) := ⟨_, hide rfl⟩
    have hl2 : O2.length ≤ 5 := by rw [← unhide HO2, List.length_append, beB_len]; exact Nat.le_refl _
    rw [unhide HO2] at ow3
    have O3 := ownsRow_low' (base' := w.heap.size + 1) ow3 (by have := R2.lt; simp; omega)
    obtain ⟨d0, d1, d2⟩ := rowC R3
    clear cv p0 p1 p2 q0 q1 q2 R2 E2 C2 hb3 ow3 hb2 V0 I0
    obtain ⟨i, hi, hz0, hz1, hz2⟩ := info_parts infoB
    go_wp2_with fail
    go_loopw [3, 23] (fun v i wr => ∃ (k : Nat) (O' : List Int), k ≤ n ∧ i = .int .i64 k ∧ Hid (O' = O2 ++ (P.take k).flatMap valE) ∧ O'.length ≤ 5 + 4000 * k ∧ wr.ownsRow (w.heap.size + 1) 5 1 v O'.length (bytesV O') ∧ Row wr w.heap.size #[.slice a n c, .int .i64 s, .slice b m d] 26 ∧ Below w.heap.size w wr) (fun _ i _ => n - (intOf i).toNat)
    case atStart => exact ⟨0, O2, Nat.zero_le _, rfl, hide (by simp), by omega, O3, R3, E3⟩
    case round =>
      obtain ⟨k, O', hk, rfl, HO, hOl, ow, R4, B4⟩ := hrel
      obtain ⟨x, cx, rfl⟩ := bytes_form ow
      have zw := R4.lt
      by_cases hlt : k < n
      · have ilt : (k : Int) < (n : Int) := by omega
        have hkl : k < P.length := by rw [unhide HP]; exact hlt
        have hsz := hV.sizes P[k] (List.getElem_mem hkl)
        have hvb : valB P[k] = true := List.all_eq_true.1 hok _ (List.getElem_mem hkl)
        obtain ⟨b', off, rfl, hbl, an, nn, cn, y0', y1', y2', y3', hN⟩ := hV.cells k hkl
        have y0 := (B4.cell (p := ⟨b', off + k * 4, none⟩) hbl).trans y0'
        have y1 := (B4.cell (p := ⟨b', off + k * 4 + 1, none⟩) hbl).trans y1'
        have y2 := (B4.cell (p := ⟨b', off + k * 4 + 2, none⟩) hbl).trans y2'
        have y3 := (B4.cell (p := ⟨b', off + k * 4 + 3, none⟩) hbl).trans y3'
        clear y0' y1' y2' y3'
        have HST := hide (flat_take_succ valE P k hkl)
        have Hlt := hide hlt
        generalize P[k] = z at y0 y1 y2 y3 hsz hvb hN HST
        have ow5 := ow.alloc (.cells #[.int .i64 z.kind, .int .i64 z.num, .string z.text, .slice an nn cn] 42)
        have R5 := Row.new wr #[.int .i64 z.kind, .int .i64 z.num, .string z.text, .slice an nn cn] 42
        have S5 := R4.alloc (.cells #[.int .i64 z.kind, .int .i64 z.num, .string z.text, .slice an nn cn] 42)
        have A5 := (Below.refl wr.heap.size wr).alloc (Nat.le_refl _) (.cells #[.int .i64 z.kind, .int .i64 z.num, .string z.text, .slice an nn cn] 42)
        have B5 := B4.alloc B4.size (.cells #[.int .i64 z.kind, .int .i64 z.num, .string z.text, .slice an nn cn] 42)
        have hne5 := ownsRow_wid ow
        have HV := hide (show valE z = beB z.kind 1 ++ (if z.kind = 1 then beB z.num 1 else if z.kind = 2 then beB z.num 8 else if z.kind = 3 then textB z.text else if z.kind = 4 then beB z.names.length 1 ++ z.names.flatMap textB else []) from rfl)
        obtain ⟨O6, HO6⟩ : ∃ O6, Hid (O' ++ [z.kind % 256] = O6) := ⟨_, hide rfl⟩
        have hl6 : O6.length ≤ 6 + 4000 * k := by rw [← unhide HO6, List.length_append, List.length_singleton]; omega
        have HN6 := hide (show O'.length + 1 = O6.length by rw [← unhide HO6, List.length_append, List.length_singleton])
        have HD := hide (fun T (hT : O6 ++ T = O' ++ valE z) => show O6 ++ T = O2 ++ (P.take (k + 1)).flatMap valE by rw [hT, unhide HST, unhide HO, List.append_assoc])
        have HL := hide (fun T (hT : O6 ++ T = O' ++ valE z) => show (O6 ++ T).length ≤ 5 + 4000 * (k + 1) by rw [hT, List.length_append]; have := valE_len hvb; omega)
        rcases valB_kind hvb with hkd | hkd | hkd | hkd
        · have e1 : (z.kind == 1) = true := beq_iff_eq.2 hkd
          have HT := hide (show O6 ++ [z.num % 256] = O' ++ valE z by rw [unhide HV, if_pos hkd, beB1, beB1, ← unhide HO6, List.append_assoc])
          clear hkd hvb
          go_wp2_with (first
            | (at_builtin; refine wpList_app1 (w.heap.size + 1) rfl _ _ rfl (some ⟨g, 0, none⟩) O6 cap _ rfl OA _ rfl rfl (by omega) hBA ?_; intro g2 cap2 w7 OB KB BB)
            | (at_builtin; refine wpList_app1 (w.heap.size + 1) rfl _ _ rfl x O' cx _ rfl ow5 _ (by simp) rfl (by omega) (by simp; omega) ?_; intro g cap w6 OA KA BA; rw [unhide HO6, unhide HN6] at OA; rw [unhide HN6] at KA; rw [unhide HN6]; have RA := R5.kp KA hne5; obtain ⟨c0, c1, c2, c3⟩ := rowV RA; have SA := S5.below BA (by omega); have EA := B5.trans (BA.mono (by omega)); have hBA : w.heap.size + 1 ≤ w6.heap.size := (by have := BA.size; simp at this; omega); have hneA : (Value.slice (some ⟨g, 0, none⟩) O6.length cap).ownBlock ≠ some wr.heap.size := (fun e => by rcases KA.2.1 _ e with y | y; exact hne5 y; simp at y; omega)))
          go_roundw
          case rel => exact ⟨k + 1, _, unhide Hlt, by go_num, hide (unhide HD _ (unhide HT)), unhide HL _ (unhide HT), OB, SA.below BB (by omega), EA.trans (BB.mono (by omega))⟩
          case measure => have := unhide Hlt; simp [intOf]; omega
        · have e1 : (z.kind == 1) = false := beq_eq_false_iff_ne.2 (by omega)
          have e2 : (z.kind == 2) = true := beq_iff_eq.2 hkd
          have HT := hide (show O6 ++ beB z.num 8 = O' ++ valE z by rw [unhide HV, if_neg (by omega), if_pos hkd, beB1, ← unhide HO6, List.append_assoc])
          clear hkd hvb
          go_wp2_with (at_builtin; refine wpList_app1 (w.heap.size + 1) rfl _ _ rfl x O' cx _ rfl ow5 _ (by simp) rfl (by omega) (by simp; omega) ?_; intro g cap w6 OA KA BA; rw [unhide HO6, unhide HN6] at OA; rw [unhide HN6] at KA; rw [unhide HN6]; have RA := R5.kp KA hne5; obtain ⟨c0, c1, c2, c3⟩ := rowV RA; have SA := S5.below BA (by omega); have EA := B5.trans (BA.mono (by omega)); have hBA : w.heap.size + 1 ≤ w6.heap.size := (by have := BA.size; simp at this; omega); have hneA : (Value.slice (some ⟨g, 0, none⟩) O6.length cap).ownBlock ≠ some wr.heap.size := (fun e => by rcases KA.2.1 _ e with y | y; exact hne5 y; simp at y; omega))
          go_loopw [3, 6] (fun v i wr => ∃ (j : Nat) (Oj : List Int), j ≤ 8 ∧ i = .int .i64 (8 * (j : Int) - 8) ∧ Hid (Oj ++ beB z.num j = O6 ++ beB z.num 8) ∧ Oj.length + j = O6.length + 8 ∧ wr.ownsRow (w.heap.size + 1) 5 1 v Oj.length (bytesV Oj) ∧ Kp w6 (.slice (some ⟨g, 0, none⟩) O6.length cap) wr v ∧ Below (w.heap.size + 1) w6 wr) (fun _ i _ => (intOf i + 8).toNat)
          case atStart => exact ⟨8, O6, Nat.le_refl _, rfl, hide rfl, rfl, OA, Kp.refl _ _, Below.refl _ _⟩
          case round =>
            obtain ⟨j, Oj, hj, rfl, HJ, hjl, owj, Kj, Bj⟩ := hrel
            obtain ⟨xj, cj, rfl⟩ := bytes_form owj
            have hBj : w.heap.size + 1 ≤ wr.heap.size := Nat.le_trans hBA Bj.size
            obtain ⟨t0, t1, t2, t3⟩ := rowV (RA.kp Kj hneA)
            cases j with
            | zero =>
              have HX2 := hide (show Oj = O6 ++ beB z.num 8 by have := unhide HJ; rw [beB, List.append_nil] at this; exact this)
              have i0 : ¬ ((0 : Int) ≤ 8 * ((0 : Nat) : Int) - 8) := by omega
              go_wp2_with fail
              refine ⟨⟨k + 1, Oj, unhide Hlt, by go_num, hide (by rw [unhide HX2]; exact unhide HD _ (unhide HT)), by rw [unhide HX2]; exact unhide HL _ (unhide HT), owj, SA.below Bj (by omega), EA.trans (Bj.mono (by omega))⟩, by have := unhide Hlt; simp [intOf]; omega⟩
            | succ j =>
              have i0 : (0 : Int) ≤ 8 * ((j + 1 : Nat) : Int) - 8 := by omega
              have ij : 8 * ((j + 1 : Nat) : Int) - 8 = 8 * (j : Int) := by omega
              rw [ij] at i0 ⊢
              have ij7 : (j : Int) ≤ 7 := by omega
              have ij0 : (0 : Int) ≤ (j : Int) := by omega
              go_wp2_with (at_builtin; refine wpList_app1 (w.heap.size + 1) rfl _ _ rfl xj Oj cj _ rfl owj _ rfl rfl (by omega) hBj ?_; intro g2 cap2 w7 OB KB BB)
              rw [u64byte z.num j (by omega)] at OB
              refine ⟨⟨j, Oj ++ [byteAt z.num j], by omega, by go_num, hide (by rw [← unhide HJ, beB, List.append_assoc]; rfl), by rw [List.length_append, List.length_singleton]; omega, OB, Kj.trans KB, Bj.trans BB⟩, by simp [intOf]; omega⟩
        · have e1 : (z.kind == 1) = false := beq_eq_false_iff_ne.2 (by omega)
          have e2 : (z.kind == 2) = false := beq_eq_false_iff_ne.2 (by omega)
          have e3 : (z.kind == 3) = true := beq_iff_eq.2 hkd
          have HT := hide (show O6 ++ textB z.text = O' ++ valE z by rw [unhide HV, if_neg (by omega), if_neg (by omega), if_pos hkd, beB1, ← unhide HO6, List.append_assoc])
          clear hkd hvb
          go_wp2_with (first
            | (go_at_call 26; refine (l5text_any (w.heap.size + 1) _ O6 _ _ OA (by omega) hsz hBA).mono ?_; rintro e w7 ⟨v7, rfl, OB, KB, BB⟩)
            | (at_builtin; refine wpList_app1 (w.heap.size + 1) rfl _ _ rfl x O' cx _ rfl ow5 _ (by simp) rfl (by omega) (by simp; omega) ?_; intro g cap w6 OA KA BA; rw [unhide HO6, unhide HN6] at OA; rw [unhide HN6] at KA; rw [unhide HN6]; have RA := R5.kp KA hne5; obtain ⟨c0, c1, c2, c3⟩ := rowV RA; have SA := S5.below BA (by omega); have EA := B5.trans (BA.mono (by omega)); have hBA : w.heap.size + 1 ≤ w6.heap.size := (by have := BA.size; simp at this; omega); have hneA : (Value.slice (some ⟨g, 0, none⟩) O6.length cap).ownBlock ≠ some wr.heap.size := (fun e => by rcases KA.2.1 _ e with y | y; exact hne5 y; simp at y; omega)))
          go_roundw
          case rel => exact ⟨k + 1, _, unhide Hlt, by go_num, hide (unhide HD _ (unhide HT)), unhide HL _ (unhide HT), OB, SA.below BB (by omega), EA.trans (BB.mono (by omega))⟩
          case measure => have := unhide Hlt; simp [intOf]; omega
        · have e1 : (z.kind == 1) = false := beq_eq_false_iff_ne.2 (by omega)
          have e2 : (z.kind == 2) = false := beq_eq_false_iff_ne.2 (by omega)
          have e3 : (z.kind == 3) = false := beq_eq_false_iff_ne.2 (by omega)
          have HT := hide (show O6 ++ (beB z.names.length 1 ++ z.names.flatMap textB) = O' ++ valE z by rw [unhide HV, if_neg (by omega), if_neg (by omega), if_neg (by omega), if_pos hkd, beB1 z.kind, ← unhide HO6, List.append_assoc])
          have Hsz := hide (setB_sizes (show setB z.names = true by have := hvb; unfold valB at this; simp [hkd] at this; exact this.1.1))
          clear hkd hvb
          go_wp2_with (first
            | (at_builtin; refine wpList_app1 (w.heap.size + 1) rfl _ _ rfl (some ⟨g, 0, none⟩) O6 cap _ rfl OA _ rfl rfl (by omega) hBA ?_; intro g2 cap2 w7 OB KB BB; obtain ⟨t0, t1, t2, t3⟩ := rowV (RA.kp KB hneA))
            | (at_builtin; refine wpList_app1 (w.heap.size + 1) rfl _ _ rfl x O' cx _ rfl ow5 _ (by simp) rfl (by omega) (by simp; omega) ?_; intro g cap w6 OA KA BA; rw [unhide HO6, unhide HN6] at OA; rw [unhide HN6] at KA; rw [unhide HN6]; have RA := R5.kp KA hne5; obtain ⟨c0, c1, c2, c3⟩ := rowV RA; have SA := S5.below BA (by omega); have EA := B5.trans (BA.mono (by omega)); have hBA : w.heap.size + 1 ≤ w6.heap.size := (by have := BA.size; simp at this; omega); have hneA : (Value.slice (some ⟨g, 0, none⟩) O6.length cap).ownBlock ≠ some wr.heap.size := (fun e => by rcases KA.2.1 _ e with y | y; exact hne5 y; simp at y; omega)))
          have EB := EA.trans (BB.mono (by omega))
          have SB := SA.below BB (by omega)
          have KAB := KA.trans KB
          obtain ⟨O7, HO7⟩ : ∃ O7, Hid (O6 ++ [(nn : Int) % 256] = O7) := ⟨_, hide rfl⟩
          have HN7 := hide (show O6.length + 1 = O7.length by rw [← unhide HO7, List.length_append, List.length_singleton])
          have hl7 : O7.length ≤ 7 + 4000 * k := by have := unhide HN7; omega
          rw [unhide HO7, unhide HN7] at OB
          rw [unhide HN7] at KB ⊢
          have HR7 := hide (show O7 ++ (z.names.drop 0).flatMap textB = O6 ++ (beB z.names.length 1 ++ z.names.flatMap textB) by rw [List.drop_zero, ← unhide HO7, beB1, hN.len, List.append_assoc])
          have hn64 : nn ≤ 64 := by rw [hN.len]; exact (unhide Hsz).1
          have Hnl := hide hN.len
          have Hwr := hide (show w.heap.size + 1 ≤ wr.heap.size by omega)
          clear t0 t1 t2 c0 c1 c2 c3 KAB
          go_loopw [3, 45] (fun v i wq => ∃ (j : Nat) (Oj : List Int), j ≤ nn ∧ i = .int .i64 j ∧ Hid (Oj ++ (z.names.drop j).flatMap textB = O6 ++ (beB z.names.length 1 ++ z.names.flatMap textB)) ∧ Oj.length ≤ 7 + 4000 * k + 33 * j ∧ wq.ownsRow (w.heap.size + 1) 5 1 v Oj.length (bytesV Oj) ∧ Below (w.heap.size + 1) w7 wq) (fun _ i _ => nn - (intOf i).toNat)
          case atStart => exact ⟨0, O7, Nat.zero_le _, rfl, HR7, by omega, OB, Below.refl _ _⟩
          case round =>
            obtain ⟨j, Oj, hj, rfl, HJ, hjl, owj, Bj⟩ := hrel
            obtain ⟨xj, cj, rfl⟩ := bytes_form owj
            have Ej := EB.trans (Bj.mono (by omega))
            by_cases hjn : j < nn
            · have ijn : (j : Int) < (nn : Int) := by omega
              have hkl2 : j < z.names.length := by rw [← unhide Hnl]; exact hjn
              obtain ⟨bq, oq, rfl, _, hcq⟩ := (hN.below Ej (Nat.le_refl _)).cells j hjn
              have hsk := (unhide Hsz).2 (nth z.names j) (by rw [nth_eq _ _ hkl2]; exact List.getElem_mem hkl2)
              have HJ2 := hide (show (Oj ++ textB (nth z.names j)) ++ (z.names.drop (j + 1)).flatMap textB = O6 ++ (beB z.names.length 1 ++ z.names.flatMap textB) by
                rw [← unhide HJ, List.drop_eq_getElem_cons hkl2, List.flatMap_cons, nth_eq _ _ hkl2, List.append_assoc])
              have Hjn := hide hjn
              have hBq : w.heap.size + 1 ≤ wr.heap.size := by have := BB.size; have := Bj.size; omega
              clear HJ
              generalize nth z.names j = sj at hcq hsk HJ2
              have hls : (Oj ++ textB sj).length ≤ 7 + 4000 * k + 33 * (j + 1) := by rw [List.length_append, textB, List.length_append, beB_len, strB_len]; omega
              go_wp2_with (go_at_call 26; refine (l5text_any (w.heap.size + 1) _ Oj sj _ owj (by omega) (by omega) hBq).mono ?_; rintro e w8 ⟨v8, rfl, OC, KC, BC⟩)
              go_roundw
              case rel => exact ⟨j + 1, _, unhide Hjn, by go_num, HJ2, hls, OC, Bj.trans BC⟩
              case measure => have := unhide Hjn; simp [intOf]; omega
            · have HX2 := hide (show Oj = O6 ++ (beB z.names.length 1 ++ z.names.flatMap textB) by
                have := unhide HJ
                rw [List.drop_of_length_le (by rw [← unhide Hnl]; omega)] at this
                simpa using this)
              have ijn : ¬ ((j : Int) < (nn : Int)) := by omega
              go_wp2_with fail
              refine ⟨⟨k + 1, Oj, unhide Hlt, by go_num, hide (by rw [unhide HX2]; exact unhide HD _ (unhide HT)), by rw [unhide HX2]; exact unhide HL _ (unhide HT), owj, SB.below Bj (by omega), Ej⟩, by have := unhide Hlt; simp [intOf]; omega⟩
      · have HP3 := hide (show O' = O2 ++ P.flatMap valE by rw [unhide HO, List.take_of_length_le (by rw [unhide HP]; omega)])
        have ilt : ¬ ((k : Int) < (n : Int)) := by omega
        obtain ⟨d0, d1, d2⟩ := rowC R4
        have hB4 : w.heap.size + 1 ≤ wr.heap.size := by omega
        clear HO R3 E3 O3 hV
        go_wp2_with (first
          | (go_at_call 25; refine (l5two_any (w.heap.size + 1) _ O5 _ _ ow5 (by omega) hB5).mono ?_; rintro e w6 ⟨v6, rfl, ow6, K6, B6⟩; obtain ⟨O6, HO6⟩ : ∃ O6, Hid (O5 ++ beB (m : Int) 2 = O6) := ⟨_, hide rfl⟩; rw [unhide HO6] at ow6; have hl6 : O6.length ≤ 16000009 := (by rw [← unhide HO6, List.length_append, beB_len]; omega); have R6 := R5.below B6 (by omega); have E6 := E5.trans (B6.mono (by omega)); obtain ⟨u0, u1, u2⟩ := rowC R6)
          | (go_at_call 25; refine (l5two_any (w.heap.size + 1) _ O' _ _ ow (by omega) hB4).mono ?_; rintro e w5 ⟨v5, rfl, ow5, K5, B5⟩; obtain ⟨O5, HO5⟩ : ∃ O5, Hid (O' ++ beB s 2 = O5) := ⟨_, hide rfl⟩; rw [unhide HO5] at ow5; have hl5 : O5.length ≤ 16000007 := (by rw [← unhide HO5, List.length_append, beB_len]; omega); have R5 := R4.below B5 (by omega); have E5 := B4.trans (B5.mono (by omega)); have hB5 := Nat.le_trans hB4 B5.size; obtain ⟨t0, t1, t2⟩ := rowC R5; obtain ⟨x5, c5, hv5⟩ := bytes_form ow5; subst hv5))
        have zb := E6.size
        clear u0 u1 t0 t1 t2 d0 d1 d2 R4 R5
        go_loopw [3, 96] (fun v i wr => ∃ (j : Nat) (Oj : List Int), j ≤ m ∧ i = .int .i64 j ∧ Hid (Oj = O6 ++ (I.take j).flatMap insE) ∧ Oj.length ≤ 16000009 + 3 * j ∧ wr.ownsRow (w.heap.size + 1) 5 1 v Oj.length (bytesV Oj) ∧ w.heap.size + 1 ≤ wr.heap.size ∧ Below w.heap.size w wr) (fun _ i _ => m - (intOf i).toNat)
        case atStart => exact ⟨0, O6, Nat.zero_le _, rfl, hide (by simp), by omega, ow6, Nat.le_trans hB5 B6.size, E6⟩
        case round =>
          obtain ⟨j, Oj, hj, rfl, HJ, hjl, owj, hBj, Ej⟩ := hrel
          obtain ⟨xj, cj, rfl⟩ := bytes_form owj
          by_cases hjm : j < m
          · have ijm : (j : Int) < (m : Int) := by omega
            have hkl : j < I.length := by rw [unhide HI]; exact hjm
            obtain ⟨b', off, rfl, hbl, y0', y1'⟩ := hI.cells j hkl
            have y0 := (Ej.cell (p := ⟨b', off + j * 2, none⟩) hbl).trans y0'
            have y1 := (Ej.cell (p := ⟨b', off + j * 2 + 1, none⟩) hbl).trans y1'
            have HST := hide (flat_take_succ insE I j hkl)
            have Hjm := hide hjm
            clear y0' y1'
            generalize I[j] = z at y0 y1 HST
            have ow7 := owj.alloc (.cells #[.int .i64 z.op, .int .i64 z.arg] 45)
            have R7 := Row.new wr #[.int .i64 z.op, .int .i64 z.arg] 45
            have E7 := Ej.alloc Ej.size (.cells #[.int .i64 z.op, .int .i64 z.arg] 45)
            have hne7 := ownsRow_wid owj
            obtain ⟨O8, HO8⟩ : ∃ O8, Hid (Oj ++ [z.op % 256] = O8) := ⟨_, hide rfl⟩
            have HN8 := hide (show Oj.length + 1 = O8.length by rw [← unhide HO8, List.length_append, List.length_singleton])
            have hl8 : O8.length ≤ 16000009 + 3 * j + 1 := by have := unhide HN8; omega
            have HT := hide (show O8 ++ beB z.arg 2 = O6 ++ (I.take (j + 1)).flatMap insE by rw [unhide HST, ← unhide HO8, unhide HJ, insE, beB1, List.append_assoc, List.append_assoc])
            have hl9 : (O8 ++ beB z.arg 2).length ≤ 16000009 + 3 * (j + 1) := by rw [List.length_append, beB_len]; omega
            clear HJ
            go_wp2_with (first
              | (go_at_call 25; refine (l5two_any (w.heap.size + 1) _ O8 _ _ OA (by omega) hBA).mono ?_; rintro e w9 ⟨v9, rfl, ow9, K9, B9⟩)
              | (at_builtin; refine wpList_app1 (w.heap.size + 1) rfl _ _ rfl xj Oj cj _ rfl ow7 _ (by simp) rfl (by omega) (by simp; omega) ?_; intro g cap w8 OA KA BA; rw [unhide HO8, unhide HN8] at OA; rw [unhide HN8] at KA; rw [unhide HN8]; have p1 := (R7.kp KA hne7).cell 1; simp only [List.getElem?_toArray, List.getElem?_cons_succ, List.getElem?_cons_zero] at p1; have EA := E7.trans (BA.mono (by omega)); have hBA : w.heap.size + 1 ≤ w8.heap.size := (by have := BA.size; simp at this; omega)))
            go_roundw
            case rel => exact ⟨j + 1, _, unhide Hjm, by go_num, HT, hl9, ow9, Nat.le_trans hBA B9.size, EA.trans (B9.mono (by omega))⟩
            case measure => have := unhide Hjm; simp [intOf]; omega
          · have HXX := hide (show Oj = encR P s I by rw [unhide HX, unhide HC, unhide HJ, List.take_of_length_le (by rw [unhide HI]; omega), ← unhide HO6, ← unhide HO5, unhide HP3, ← unhide HO2])
            have ijm : ¬ ((j : Int) < (m : Int)) := by omega
            go_wp2_with fail
            go_ret
            refine ⟨_, rfl, ?_, Ej⟩
            rw [← unhide HXX]
            exact ownsRow_low' owj (by omega)

end Go.Proofs.Ytmkoidbpkhiohaa

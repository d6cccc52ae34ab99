/-
  FnExactDecodeCode: bytes copied, and the law's walk. Own work.
-/
import Derived.Test.YtmkoidbpkhiohaaKN
import Derived.Test.YtmkoidbpkhiohaaKK
import Derived.Test.YtmkoidbpkhiohaaEZ4
namespace Go.Proofs.Ytmkoidbpkhiohaa
open Go.RowKit
set_option linter.unusedVariables false

/-- bytes in memory, of any number -/
structure BysR (w : World) (a : Option Addr) (n c : Nat) (L : List Int) : Prop where
  len : L.length = n
  cap : n ≤ c
  small : c ≤ maxLen
  ok : okB L
  cells : ∀ j, (h : j < L.length) → ∃ b off, a = some ⟨b, off, none⟩ ∧ b < w.heap.size ∧ w.cell? ⟨b, off + j, none⟩ = some (.int .u8 L[j])

theorem BysR.below {w w' : World} {B n c : Nat} {a : Option Addr} {L : List Int} (h : BysR w a n c L) (hb : Below B w w') (hB : w.heap.size ≤ B) : BysR w' a n c L :=
  ⟨h.len, h.cap, h.small, h.ok, fun j hj => by
    obtain ⟨b, off, ha, hw, hc⟩ := h.cells j hj
    exact ⟨b, off, ha, Nat.lt_of_lt_of_le hw hb.size, (hb.cell (p := ⟨b, off + j, none⟩) (by show b < B; omega)).trans hc⟩⟩

theorem OwnB.bys {w : World} {lo hi n c : Nat} {a : Option Addr} {L : List Int} (h : OwnB w lo hi a n c L) (hc : c ≤ 1048576) (hn : n ≤ c) (ok : okB L) : Bys w w.heap.size a n c L := by
  refine ⟨h.len, hn, hc, ok, fun j hj => ?_⟩
  have hl := h.len
  obtain ⟨g, rfl, h1, h2, h3⟩ := h.form (by omega)
  exact ⟨g, 0, rfl, h3, h3, by rw [Nat.zero_add, h.own.cellAt j (by omega)]; exact bytesV_at L j hj⟩

/-- the first j are copied -/
def halfB (L : List Int) (n j : Nat) : List Int := L.take j ++ List.replicate (n - j) 0

theorem halfB_zero (L : List Int) (n : Nat) : halfB L n 0 = List.replicate n 0 := by simp [halfB]
theorem halfB_full (L : List Int) (n : Nat) (h : L.length = n) : halfB L n n = L := by simp [halfB, ← h]
theorem halfB_len (L : List Int) (n j : Nat) (h : L.length = n) (hj : j ≤ n) : (halfB L n j).length = n := by
  rw [halfB, List.length_append, List.length_take, List.length_replicate]; omega
theorem halfB_set (L : List Int) (n j : Nat) (h : L.length = n) (hj : j < L.length) : (bytesV (halfB L n j)).set j (.int .u8 L[j]) = bytesV (halfB L n (j + 1)) := by
  have hl : (L.take j).length = j := by rw [List.length_take]; omega
  obtain ⟨d, hd⟩ : ∃ d, n - j = d + 1 := ⟨n - j - 1, by omega⟩
  rw [bytesV, ← List.map_set, halfB, hd, List.replicate_succ, List.set_append_right _ _ (by omega), hl, Nat.sub_self, List.set_cons_zero, bytesV, halfB, List.take_succ_eq_append_getElem hj, List.append_assoc, show n - (j + 1) = d by omega]
  rfl

set_option maxHeartbeats 1600000 in
theorem toByteS_any (a : Option Addr) (n c : Nat) (L : List Int) (w : World) (h : BysR w a n c L) (hsm : n ≤ 1048576) :
    Calls Try.prog 5 #[.slice a n c] w fun e w' => e = .returned (.slice (some ⟨w.heap.size, 0, none⟩) n n) ∧ Below w.heap.size w w' ∧ w'.ownsRow w.heap.size 5 1 (.slice (some ⟨w.heap.size, 0, none⟩) n n) n (bytesV L) := by
  obtain ⟨i, hi, hz0, hz1, hz2⟩ := info_parts infoB
  have Hl := hide h.len
  go_enter Try.func5, Try.ntmps5
  go_wp2_with (at_make; refine wpList_make_full _ rfl _ _ 22 rfl w.heap.size 5 i (.int .u8 0) 1 Try.underlying22 hi hz0 hz1 _ _ _ _ n rfl rfl rfl rfl ?b2 ?b3 ?b4 ?_)
  case b2 => rw [hz2]; omega
  case b3 => unfold maxLen; omega
  case b4 => exact Nat.le_refl _
  intro w1 hown hgrow
  have hb1 : Below w.heap.size w w1 := (Below.refl _ _).grown hgrow (Nat.le_refl _) (fun k hk => by cases hk)
  clear hgrow
  have hown1 : w1.ownsRow w.heap.size 5 1 (.slice (some ⟨w.heap.size, 0, none⟩) n n) n (bytesV (halfB L n 0)) := by
    rw [halfB_zero, bytesV, List.map_replicate, ← toList_madeCells_one, ← Nat.mul_one n]
    simpa using hown
  clear hown
  go_wp2
  go_loopw [4] (fun i wr => ∃ k : Nat, k ≤ n ∧ i = .int .i64 k ∧ wr.ownsRow w.heap.size 5 1 (.slice (some ⟨w.heap.size, 0, none⟩) n n) n (bytesV (halfB L n k)) ∧ Below w.heap.size w wr) (fun i _ => n - (intOf i).toNat)
  case atStart => exact ⟨0, Nat.zero_le _, rfl, hown1, hb1⟩
  case round =>
    obtain ⟨k, hk, rfl, hown, hb⟩ := hrel
    clear hown1 hb1
    by_cases hlt : k < n
    · have hkl : k < L.length := by rw [unhide Hl]; exact hlt
      obtain ⟨b, off, ha', _, hc⟩ := (h.below hb (Nat.le_refl _)).cells k hkl
      subst ha'
      have hfz := hown.frozenAt k
      have hck := (hown.cellAt k (by omega)).trans (bytesV_at (halfB L n k) k (by rw [halfB_len L n k (unhide Hl) hk]; exact hlt))
      have Hst := hide (hown.stored k (.int .u8 L[k])).1
      have Hset := hide (halfB_set L n k (unhide Hl) hkl)
      have Hlt := hide hlt
      generalize (halfB L n k)[k]'_ = old at hck
      generalize L[k] = x at hc Hst Hset
      clear hown
      go_wp2
      go_roundw
      case rel => exact ⟨k + 1, unhide Hlt, by go_num, by rw [← unhide Hset]; exact unhide Hst, hb.setCell (Nat.le_refl _) _⟩
      case measure => have := unhide Hlt; simp [intOf]; omega
    · have e : k = n := by omega
      subst e
      go_wp2
      go_ret
      exact ⟨rfl, hb, by rw [halfB_full L k (unhide Hl)] at hown; exact hown⟩

theorem okC_dec (L : List Int) (ok : okB L) : okC ⟨((decI L).getD ⟨[], 0, []⟩).pool, 0, ((decI L).getD ⟨[], 0, []⟩).ins⟩ := by
  have h := (bodyI_ok (markI (L, false)) (markI_ok (L, false) ok)).1
  have hd := decI_eq L ok
  generalize bodyI (markI (L, false)) = r at h hd
  rw [hd]
  by_cases hc : r.2 = ([], false) ∧ shapB r.1.pool r.1.slots r.1.ins = true
  · rw [if_pos hc]; exact h
  · rw [if_neg hc]; exact ⟨Nat.zero_le _, (fun x hx => by cases hx), Nat.zero_le _⟩

/-- a code that is handed back, and whether it is one -/
def DcA (w : World) (c : Cd) (ok : Bool) (e : Ending) (w' : World) : Prop := ∃ x cx y cy nv, e = .returned (.tuple #[.agg #[.slice x c.pool.length cx, .int .i64 c.slots, .slice y c.ins.length cy], .bool ok]) ∧ OwnC w' w.heap.size w'.heap.size x c.pool.length cx y c.ins.length cy c.pool nv c.ins ∧ Below w.heap.size w w'

set_option maxRecDepth 100000 in
set_option maxHeartbeats 6400000 in
theorem fnExactDecodeCode_walk (a : Option Addr) (n c : Nat) (L : List Int) (w : World) (h : BysR w a n c L) :
    Calls Try.prog 3 #[.slice a n c] w fun e w' => e = .returned (.bool true) ∧ Below w.heap.size w w' := by
  have hcp := h.cap
  have hsm := h.small
  unfold maxLen at hsm
  by_cases hbig : 1048576 < n
  · have il : (1048576 : Int) < (n : Int) := by omega
    go_enter Try.func3, Try.ntmps3
    go_wp2_with fail
    go_ret
    exact ⟨rfl, Below.refl _ _⟩
  have il : ¬ ((1048576 : Int) < (n : Int)) := by omega
  have hn : n ≤ 1048576 := by omega
  have Hok := hide h.ok
  have Hl := hide h.len
  have HB := hide h
  have hokc := okC_dec L h.ok
  have HD : ∀ W (g : Nat), OwnB W g W.heap.size (some ⟨g, 0, none⟩) n n L → Calls Try.prog 6 #[.slice (some ⟨g, 0, none⟩) n n] W fun e w' => DcA W ((decI L).getD ⟨[], 0, []⟩) (decI L).isSome e w' := fun W g hW => (iDecode_any _ _ _ L W (hW.bys (by omega) (Nat.le_refl _) (unhide Hok))).mono fun e w' hd => OwnC.of hd
  have HS : ∀ W (g : Nat), OwnB W g W.heap.size (some ⟨g, 0, none⟩) n n L → Calls Try.prog 4 #[.slice (some ⟨g, 0, none⟩) n n] W fun e w' => DcA W ((decI L).getD ⟨[], 0, []⟩) (decI L).isSome e w' := fun W g hW => by
    rw [dec_same L (unhide Hok)]
    exact (sDecode_any _ _ _ L W (hW.bys (by omega) (Nat.le_refl _) (unhide Hok))).mono fun e w' hd => OwnC.of hd
  have HD := hide HD
  have HS := hide HS
  have Hokc := hide hokc
  clear hcp hsm hbig h hokc
  generalize (decI L).getD ⟨[], 0, []⟩ = cd at HD HS Hokc
  generalize (decI L).isSome = ob at HD HS
  obtain ⟨P, sl, I⟩ := cd
  simp only at Hokc
  have hIl := (unhide Hokc).2.2
  simp only at hIl
  go_enter Try.func3, Try.ntmps3
  -- w0
  go_wp2_with fail
  refine (toByteS_any _ _ _ _ _ (unhide HB) hn).mono ?_
  rintro e w1 ⟨rfl, hb1, ow1⟩
  have O1 := OwnB.of ow1 (unhide Hl)
  go_wp2_with fail
  refine (unhide HS w1 _ O1).mono ?_
  rintro e w2 ⟨x0, c0, y0, d0, nv0, rfl, OW, hb2⟩
  simp only at OW
  have E2 := hb1.trans (hb2.mono hb1.size)
  have z1 := hb1.size
  have z2 := hb2.size
  have zo1 := (ow1.lt w.heap.size rfl).2
  clear O1 ow1 hb1 hb2
  have B3 := (Below.refl w2.heap.size w2).alloc (Nat.le_refl _) (.cells #[.slice x0 P.length c0, .int .i64 sl, .slice y0 I.length d0] 26)
  have RW := Row.new w2 #[.slice x0 P.length c0, .int .i64 sl, .slice y0 I.length d0] 26
  have E3 := E2.trans (B3.mono E2.size)
  have OW := OW.below B3 (Nat.le_refl _)
  have z3 : w2.heap.size < (w2.alloc (.cells #[.slice x0 P.length c0, .int .i64 sl, .slice y0 I.length d0] 26)).heap.size := by simp
  go_wp2_with fail
  generalize w2.alloc (.cells #[.slice x0 P.length c0, .int .i64 sl, .slice y0 I.length d0] 26) = w3 at B3 RW E3 OW z3 ⊢
  clear B3 E2
  -- x0
  refine (toByteS_any _ _ _ _ _ ((unhide HB).below E3 (Nat.le_refl _)) hn).mono ?_
  rintro e w4 ⟨rfl, hb4, ow4⟩
  have OX := OwnB.of ow4 (unhide Hl)
  have E4 := E3.trans (hb4.mono E3.size)
  have RW := RW.after hb4 (Nat.le_refl _)
  have OW := OW.below hb4 (by have := OW.top; omega)
  have z4 := hb4.size
  have zx := (ow4.lt w3.heap.size rfl).2
  clear hb4 E3 ow4
  -- g0
  go_wp2_with fail
  refine (unhide HD w4 _ OX).mono ?_
  rintro e w5 ⟨x1, c1, y1, d1, nv1, rfl, OG, hb5⟩
  simp only at OG
  have E5 := E4.trans (hb5.mono E4.size)
  have RW := RW.after hb5 (Nat.le_refl _)
  have OW := OW.below hb5 (by have := OW.top; omega)
  have OX := OX.below hb5 (Nat.le_refl _)
  have z5 := hb5.size
  clear hb5 E4
  have B6 := (Below.refl w5.heap.size w5).alloc (Nat.le_refl _) (.cells #[.slice x1 P.length c1, .int .i64 sl, .slice y1 I.length d1] 26)
  have RG := Row.new w5 #[.slice x1 P.length c1, .int .i64 sl, .slice y1 I.length d1] 26
  have E6 := E5.trans (B6.mono E5.size)
  have RW := RW.alloc (.cells #[.slice x1 P.length c1, .int .i64 sl, .slice y1 I.length d1] 26)
  have OW := OW.below B6 (by have := OW.top; omega)
  have OX := OX.below B6 (by have := OX.top; omega)
  have OG := OG.below B6 (Nat.le_refl _)
  have z6 : w5.heap.size < (w5.alloc (.cells #[.slice x1 P.length c1, .int .i64 sl, .slice y1 I.length d1] 26)).heap.size := by simp
  have VG := hide (OG.vls (unhide Hokc))
  have VW := hide (OW.vls (unhide Hokc))
  obtain ⟨p0, p1, p2⟩ := rowC RW
  obtain ⟨q0, q1, q2⟩ := rowC RG
  go_wp2_with fail
  generalize w5.alloc (.cells #[.slice x1 P.length c1, .int .i64 sl, .slice y1 I.length d1] 26) = w6 at B6 RG E6 RW OW OX OG z6 VG VW p0 p1 p2 q0 q1 q2 ⊢
  clear B6 E5
  refine (eqCode_same _ _ _ _ _ _ _ _ _ _ sl P I _ (unhide VG).1 (unhide VW).1 (unhide VG).2 (unhide VW).2).mono ?_
  rintro e w7 ⟨rfl, hb7⟩
  have E7 := E6.trans (hb7.mono E6.size)
  have RW := RW.after hb7 (Nat.le_refl _)
  have RG := RG.after hb7 (Nat.le_refl _)
  have OW := OW.below hb7 (by have := OW.top; omega)
  have OX := OX.below hb7 (by have := OX.top; omega)
  have OG := OG.below hb7 (by have := OG.top; omega)
  have z7 := hb7.size
  clear hb7 E6 VG VW p0 p1 p2 q0 q1 q2
  -- x0 is as it was
  go_wp2_with fail
  refine (toByteS_any _ _ _ _ _ ((unhide HB).below E7 (Nat.le_refl _)) hn).mono ?_
  rintro e w8 ⟨rfl, hb8, ow8⟩
  have OY := OwnB.of ow8 (unhide Hl)
  have E8 := E7.trans (hb8.mono E7.size)
  have RW := RW.after hb8 (Nat.le_refl _)
  have RG := RG.after hb8 (Nat.le_refl _)
  have OW := OW.below hb8 (by have := OW.top; omega)
  have OX := OX.below hb8 (by have := OX.top; omega)
  have OG := OG.below hb8 (by have := OG.top; omega)
  have z8 := hb8.size
  clear hb8 E7 ow8
  go_wp2_with fail
  refine (eqByteS_same _ _ _ _ _ _ _ _ _ _ _ OX OY (by omega)).mono ?_
  rintro e w9 ⟨rfl, hb9⟩
  have E9 := E8.trans (hb9.mono E8.size)
  have RW := RW.after hb9 (Nat.le_refl _)
  have RG := RG.after hb9 (Nat.le_refl _)
  have OW := OW.below hb9 (by have := OW.top; omega)
  have OX := OX.below hb9 (by have := OX.top; omega)
  have OG := OG.below hb9 (by have := OG.top; omega)
  have z9 := hb9.size
  clear hb9 E8 OY
  -- marks on x0
  go_wp2_with fail
  refine (markByteS_any _ _ _ _ _ _ 1 _ OX (by omega)).mono ?_
  rintro e w10 ⟨rfl, _, T10⟩
  have E10 := below_touch E9 T10 (by omega) E9.size
  have RW := RW.touch' T10 (.inl (by omega))
  have RG := RG.touch' T10 (.inr (by omega))
  have OW := OW.touch T10 (.inl (by omega))
  have OG := OG.touch T10 (.inr (by omega))
  have z10 := T10.size
  have hzn : ¬ (((1 + n : Nat) : Int) < 0) := by omega
  clear T10 OX E9
  have VG := hide (OG.vls (unhide Hokc))
  have VW := hide (OW.vls (unhide Hokc))
  obtain ⟨p0, p1, p2⟩ := rowC RW
  obtain ⟨q0, q1, q2⟩ := rowC RG
  go_wp2_with fail
  refine (eqCode_same _ _ _ _ _ _ _ _ _ _ sl P I _ (unhide VG).1 (unhide VW).1 (unhide VG).2 (unhide VW).2).mono ?_
  rintro e w11 ⟨rfl, hb11⟩
  have E11 := E10.trans (hb11.mono E10.size)
  have RW := RW.after hb11 (Nat.le_refl _)
  have RG := RG.after hb11 (Nat.le_refl _)
  have OW := OW.below hb11 (by have := OW.top; omega)
  have OG := OG.below hb11 (by have := OG.top; omega)
  have z11 := hb11.size
  clear hb11 E10 VG VW p0 p1 p2 q0 q1 q2
  obtain ⟨q0, q1, q2⟩ := rowC RG
  -- marks on g0
  go_wp2_with fail
  refine (markCode_own _ _ _ _ _ _ _ _ sl P nv1 I _ OG (unhide Hokc)).mono ?_
  rintro e w12 ⟨rfl, OM, T12⟩
  have E12 := below_touch E11 T12 (by omega) E11.size
  have RW := RW.touch' T12 (.inl (by omega))
  have RG := RG.touch' T12 (.inr (by omega))
  have OW := OW.touch T12 (.inl (by omega))
  have z12 := T12.size
  clear T12 OG E11 q0 q1 q2
  obtain ⟨q0, q1, q2⟩ := rowC RG
  go_wp2_with fail
  refine (heldCode_own _ _ _ _ _ _ _ _ sl P nv1 _ OM (unhide Hokc).2.1 (unhide Hokc).1 hIl).mono ?_
  rintro e w13 ⟨rfl, hb13⟩
  have E13 := E12.trans (hb13.mono E12.size)
  have RW := RW.after hb13 (Nat.le_refl _)
  have RG := RG.after hb13 (Nat.le_refl _)
  have OW := OW.below hb13 (by have := OW.top; omega)
  have OM := OM.below hb13 (by have := OM.top; omega)
  have z13 := hb13.size
  have hq : ¬ (mkC P I.length < 0) := by unfold mkC; omega
  clear hb13 E12 q0 q1 q2
  -- once more
  go_wp2_with fail
  refine (toByteS_any _ _ _ _ _ ((unhide HB).below E13 (Nat.le_refl _)) hn).mono ?_
  rintro e w14 ⟨rfl, hb14, ow14⟩
  have OX := OwnB.of ow14 (unhide Hl)
  have E14 := E13.trans (hb14.mono E13.size)
  have RW := RW.after hb14 (Nat.le_refl _)
  have RG := RG.after hb14 (Nat.le_refl _)
  have OW := OW.below hb14 (by have := OW.top; omega)
  have OM := OM.below hb14 (by have := OM.top; omega)
  have z14 := hb14.size
  clear hb14 E13 ow14
  go_wp2_with fail
  refine (unhide HD w14 _ OX).mono ?_
  rintro e w15 ⟨x2, c2, y2, d2, nv2, rfl, OH, hb15⟩
  simp only at OH
  have E15 := E14.trans (hb15.mono E14.size)
  have RW := RW.after hb15 (Nat.le_refl _)
  have RG := RG.after hb15 (Nat.le_refl _)
  have OW := OW.below hb15 (by have := OW.top; omega)
  have OM := OM.below hb15 (by have := OM.top; omega)
  have z15 := hb15.size
  clear hb15 E14 OX
  have B16 := (Below.refl w15.heap.size w15).alloc (Nat.le_refl _) (.cells #[.slice x2 P.length c2, .int .i64 sl, .slice y2 I.length d2] 26)
  have RH := Row.new w15 #[.slice x2 P.length c2, .int .i64 sl, .slice y2 I.length d2] 26
  have E16 := E15.trans (B16.mono E15.size)
  have RW := RW.alloc (.cells #[.slice x2 P.length c2, .int .i64 sl, .slice y2 I.length d2] 26)
  have RG := RG.alloc (.cells #[.slice x2 P.length c2, .int .i64 sl, .slice y2 I.length d2] 26)
  have OW := OW.below B16 (by have := OW.top; omega)
  have OM := OM.below B16 (by have := OM.top; omega)
  have OH := OH.below B16 (Nat.le_refl _)
  have VH := hide (OH.vls (unhide Hokc))
  have VW := hide (OW.vls (unhide Hokc))
  obtain ⟨p0, p1, p2⟩ := rowC RW
  obtain ⟨q0, q1, q2⟩ := rowC RH
  have z16 : w15.heap.size < (w15.alloc (.cells #[.slice x2 P.length c2, .int .i64 sl, .slice y2 I.length d2] 26)).heap.size := by simp
  go_wp2_with fail
  generalize w15.alloc (.cells #[.slice x2 P.length c2, .int .i64 sl, .slice y2 I.length d2] 26) = w16 at B16 RH E16 RW RG OW OM OH VH VW p0 p1 p2 q0 q1 q2 z16 ⊢
  refine (eqCode_same _ _ _ _ _ _ _ _ _ _ sl P I _ (unhide VH).1 (unhide VW).1 (unhide VH).2 (unhide VW).2).mono ?_
  rintro e w17 ⟨rfl, hb17⟩
  have E17 := E16.trans (hb17.mono E16.size)
  have RG := RG.after hb17 (Nat.le_refl _)
  have OM := OM.below hb17 (by have := OM.top; omega)
  clear hb17 E16 VH VW p0 p1 p2 q0 q1 q2 OW OH RW RH B16 E15
  obtain ⟨q0, q1, q2⟩ := rowC RG
  go_wp2_with fail
  refine (heldCode_own _ _ _ _ _ _ _ _ sl P nv1 _ OM (unhide Hokc).2.1 (unhide Hokc).1 hIl).mono ?_
  rintro e w18 ⟨rfl, hb18⟩
  have E18 := E17.trans (hb18.mono E17.size)
  clear hb18 E17
  go_wp2_with fail
  go_ret
  exact ⟨rfl, E18⟩

end Go.Proofs.Ytmkoidbpkhiohaa

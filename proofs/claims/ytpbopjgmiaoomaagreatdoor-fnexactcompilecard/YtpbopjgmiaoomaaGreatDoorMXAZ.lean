/-
  CQA, CQL. Own work.
-/
import Derived.Test.YtpbopjgmiaoomaaGreatDoorCPI
import Derived.Test.YtpbopjgmiaoomaaGreatDoorMXAY
import Derived.Test.YtpbopjgmiaoomaaGreatDoorMXAQ
import Derived.Test.YtpbopjgmiaoomaaGreatDoorMXAW
namespace Go.Proofs.YtpbopjgmiaoomaaGreatDoor
open Go.RowKit
set_option linter.unusedVariables false

/-- what the law is given -/
structure EnvC (w : World) (a b f : Option Addr) (n c m d p g : Nat) (N : List Nd) (L : List St) (T : List Int) (aT aN aA : Addr) : Prop where
  nd : NdsR w a n c N
  st : StsR w b m d L
  it : IntsR w f p g T
  tab : TabOK w
  vo : Vok w aT
  eo : Eok w aN aA

theorem EnvC.below {w w' : World} {B : Nat} {a b f : Option Addr} {n c m d p g : Nat} {N : List Nd} {L : List St} {T : List Int} {aT aN aA : Addr} (h : EnvC w a b f n c m d p g N L T aT aN aA) (hb : Below B w w') (hB : w.heap.size ≤ B) : EnvC w' a b f n c m d p g N L T aT aN aA :=
  ⟨h.nd.below hb hB, h.st.below hb hB, h.it.below hb hB, h.tab.below hb hB, h.vo.below hb hB, h.eo.below hb hB⟩

/-- a copy of the typed policy -/
def CpC (w : World) (x1 x2 x3 : Addr) (n m p : Nat) (N : List Nd) (L : List St) (T : List Int) : Prop := Nds w (some x1) n n N ∧ Sts w (some x2) m m L ∧ Ints w (some x3) p p T ∧ NmZ w (some x1) N

theorem CpC.below {w w' : World} {x1 x2 x3 : Addr} {n m p : Nat} {N : List Nd} {L : List St} {T : List Int} (h : CpC w x1 x2 x3 n m p N L T) (hb : Below w.heap.size w w') : CpC w' x1 x2 x3 n m p N L T :=
  ⟨h.1.below hb (Nat.le_refl _), h.2.1.below hb (Nat.le_refl _), h.2.2.1.below hb (Nat.le_refl _), h.2.2.2.below h.1 hb⟩

theorem NmZ.of_hi {w : World} {g : Nat} {N : List Nd} (h : Hi w g N) : NmZ w (some ⟨g, 0, none⟩) N := by
  obtain ⟨cs, ⟨R, _⟩, hx⟩ := h
  intro j hj b off e an nn cn hc hn
  cases e
  obtain ⟨x1, n1, x2, n2, _, _, _, d3, _, _, _, hW, _⟩ := hx j hj
  rw [Nat.zero_add, R.cell, d3] at hc
  cases hc
  cases hn

/-- an answer: a code of the call's own -/
def CdA (o : Cs) (w : World) (r : Ending) (w' : World) : Prop := ∃ x cx y cy nv, r = .returned (.agg #[.slice x o.pool.length cx, .int .i64 o.slots, .slice y o.ins.length cy]) ∧ OwnC w' w.heap.size w'.heap.size x o.pool.length cx y o.ins.length cy o.pool nv o.ins ∧ Below w.heap.size w w'

theorem CdA.of {o : Cs} {w w' : World} {r : Ending} (h : CpA o w r w') : CdA o w r w' := by
  obtain ⟨x, cx, y, cy, nv, he, hp, hi, hb⟩ := h
  exact ⟨x, cx, y, cy, nv, he, ⟨hp, hi, fun q hq => ⟨own_ne_own hi hp.own (by decide) q hq, fun j hj => own_ne_own hi (hp.names j (by rw [← hp.len]; exact hj) hj) (by decide) q hq⟩, ⟨fun q hq => (hp.lts.1 q hq).2, fun j hj q hq => (hp.lts.2 j hj q hq).2⟩, fun q hq => (hi.lt q hq).2, Nat.le_refl _, rfl, rfl⟩, hb⟩

section
variable {a b f : Option Addr} {n c m d p g : Nat} {N : List Nd} {L : List St} {T : List Int} {aT aN aA : Addr}

theorem toT_any {w : World} (h : EnvC w a b f n c m d p g N L T aT aN aA) (hs : smallT n m p N L) :
    Calls Tryz.prog 6 #[.agg #[.slice a n c, .slice b m d, .slice f p g]] w fun e w' => ∃ x1 x2 x3, e = .returned (.agg #[.slice (some x1) n n, .slice (some x2) m m, .slice (some x3) p p]) ∧ CpC w' x1 x2 x3 n m p N L T ∧ Below w.heap.size w w' ∧ TyZ w' w.heap.size w'.heap.size x1 x2 x3 n m p := by
  refine (toTyped_any a b f n c m d p g N L T w h.nd h.st h.it hs).mono ?_
  rintro e w1 ⟨x1, x2, x3, rfl, h1, h2, h3, hb, M⟩
  have M' := M
  obtain ⟨⟨q, rfl, hh⟩, _⟩ := M'
  exact ⟨_, x2, x3, rfl, ⟨h1, h2, h3, NmZ.of_hi hh⟩, hb, TyZ.of M h.nd.len hs⟩

theorem sCmp_any {w : World} {x1 x2 x3 : Addr} (hT : CpC w x1 x2 x3 n m p N L T) :
    Calls Tryz.prog 5 #[.agg #[.slice (some x1) n n, .slice (some x2) m m, .slice (some x3) p p]] w fun r w' => ∃ o, IsCp N L T o ∧ CdA o w r w' :=
  (sCompile_any _ _ _ _ _ _ _ _ _ N L T w hT.1 hT.2.1 hT.2.2.1 hT.2.2.2).mono fun r w' ⟨o, h1, h2⟩ => ⟨o, h1, CdA.of h2⟩

theorem iCmp_any {w : World} (hA : ∀ x ∈ N, R64 x.num) (hE : EnvC w a b f n c m d p g N L T aT aN aA) {x1 x2 x3 : Addr} (hT : CpC w x1 x2 x3 n m p N L T) {o : Cs} (ho : IsCp N L T o) :
    Calls Tryz.prog 7 #[.agg #[.slice (some x1) n n, .slice (some x2) m m, .slice (some x3) p p]] w (CdA o w) := by
  refine (iCompile_any _ _ _ _ _ _ _ _ _ N L T aT aN aA w hT.1 hT.2.1 hT.2.2.1 hE.tab hE.vo hE.eo hA).mono ?_
  rintro r w1 ⟨o', h1, h2⟩
  rw [ho.one h1]
  exact CdA.of h2

end

end Go.Proofs.YtpbopjgmiaoomaaGreatDoor

namespace Go.Proofs.YtpbopjgmiaoomaaGreatDoor
open Go.RowKit
set_option linter.unusedVariables false

set_option maxRecDepth 100000 in
set_option maxHeartbeats 6400000 in
theorem fnExactCompile_walk (a b f : Option Addr) (n c m d p g : Nat) (N : List Nd) (L : List St) (T : List Int) (aT aN aA : Addr) (w : World) (h0 : EnvC w a b f n c m d p g N L T aT aN aA) (hnum : ∀ x ∈ N, R64 x.num) :
    Calls Tryz.prog 3 #[.agg #[.slice a n c, .slice b m d, .slice f p g]] w fun e w' => e = .returned (.bool true) ∧ Below w.heap.size w w' := by
  have RT := Row.new w #[.slice a n c, .slice b m d, .slice f p g] 26
  have B0 := (Below.refl w.heap.size w).alloc (Nat.le_refl _) (.cells #[.slice a n c, .slice b m d, .slice f p g] 26)
  have E0 := h0.below B0 (Nat.le_refl _)
  have HE := hide h0
  have HA := hide hnum
  clear hnum
  go_enter Tryz.func3, Tryz.ntmps3
  go_wp2_with fail
  refine (szTyped_any _ _ _ _ _ _ _ _ _ N L T _ E0.nd E0.st E0.it).mono ?_
  rintro e w1 ⟨⟨r, rfl, hr⟩, hb1⟩
  have RT1 := RT.after hb1 (Nat.le_refl _)
  have B1 := B0.trans (hb1.mono B0.size)
  clear RT B0 E0 hb1 h0
  dsimp only
  by_cases hr0 : r < 0
  · clear hr
    go_wp2_with fail
    go_ret
    exact ⟨rfl, B1⟩
  obtain ⟨r0, r1, hs⟩ := hr.resolve_left (by omega)
  have Hs := hide hs
  have Hs2 := hide (show n ≤ 1048576 ∧ m ≤ 1048576 ∧ p ≤ 1048576 from ⟨hs.1.1.1, hs.1.2.1, hs.2⟩)
  clear hs hr
  -- the walk
  have zw := RT1.lt
  obtain ⟨m0, m1, m2⟩ := rowT3 RT1
  go_wp2_with fail
  refine (toT_any ((unhide HE).below B1 (Nat.le_refl _)) (unhide Hs)).mono ?_
  rintro e v2 ⟨a1, b1, d1, rfl, CP1, hb1, TZ1⟩
  clear m0 m1 m2
  have E_2 := B1.trans (hb1.mono B1.size)
  have z_2 := hb1.size
  replace RT1 := RT1.after hb1 (Nat.le_refl _)
  clear B1
  clear hb1
  dsimp only
  clear TZ1
  go_wp2_with fail
  refine (sCmp_any CP1).mono ?_
  rintro e v3 ⟨o, hcp, x0, c0, y0, d0, nv0, rfl, OW, hb3⟩
  have Hokc := hide (show okC3 o.pool o.ins from ⟨hcp.small.1, hcp.small.2.1, hcp.small.2.2.1⟩)
  have hIl : o.ins.length ≤ 65535 := hcp.small.2.2.1
  have HCP := hide hcp
  clear CP1 hcp
  have E_3 := E_2.trans (hb3.mono E_2.size)
  have z_3 := hb3.size
  replace RT1 := RT1.after hb3 (Nat.le_refl _)
  clear E_2
  clear hb3
  dsimp only
  obtain ⟨P, sl, I⟩ := o
  dsimp only at OW Hokc hIl
  have C_RW := (Below.refl v3.heap.size v3).alloc (Nat.le_refl _) (.cells #[.slice x0 P.length c0, .int .i64 sl, .slice y0 I.length d0] 31)
  have RW := Row.new v3 #[.slice x0 P.length c0, .int .i64 sl, .slice y0 I.length d0] 31
  have zz_RW : v3.heap.size < (v3.alloc (.cells #[.slice x0 P.length c0, .int .i64 sl, .slice y0 I.length d0] 31)).heap.size := by simp
  have E_4 := E_3.trans (C_RW.mono E_3.size)
  have z_4 := C_RW.size
  replace RT1 := RT1.after C_RW (Nat.le_refl _)
  replace OW := OW.below C_RW (by have := OW.top; omega)
  clear E_3
  obtain ⟨m0, m1, m2⟩ := rowT3 RT1
  go_wp2_with fail
  generalize (v3.alloc (.cells #[.slice x0 P.length c0, .int .i64 sl, .slice y0 I.length d0] 31)) = v4 at RT1 RW OW E_4 z_4 m0 m1 m2 zz_RW ⊢
  clear C_RW
  refine (toT_any ((unhide HE).below E_4 (Nat.le_refl _)) (unhide Hs)).mono ?_
  rintro e v5 ⟨a5, b5, d5, rfl, CP5, hb5, TZ5⟩
  clear m0 m1 m2
  have E_5 := E_4.trans (hb5.mono E_4.size)
  have z_5 := hb5.size
  replace RT1 := RT1.after hb5 (Nat.le_refl _)
  replace RW := RW.after hb5 (Nat.le_refl _)
  replace OW := OW.below hb5 (by have := OW.top; omega)
  clear E_4
  have zt5 := hb5.size
  clear hb5
  dsimp only
  have C_RX := (Below.refl v5.heap.size v5).alloc (Nat.le_refl _) (.cells #[.slice (some a5) n n, .slice (some b5) m m, .slice (some d5) p p] 36)
  have RX := Row.new v5 #[.slice (some a5) n n, .slice (some b5) m m, .slice (some d5) p p] 36
  have zz_RX : v5.heap.size < (v5.alloc (.cells #[.slice (some a5) n n, .slice (some b5) m m, .slice (some d5) p p] 36)).heap.size := by simp
  have E_6 := E_5.trans (C_RX.mono E_5.size)
  have z_6 := C_RX.size
  replace RT1 := RT1.after C_RX (Nat.le_refl _)
  replace RW := RW.after C_RX (Nat.le_refl _)
  replace OW := OW.below C_RX (by have := OW.top; omega)
  replace CP5 := CP5.below C_RX
  replace TZ5 := TZ5.below C_RX
  clear E_5
  obtain ⟨r0x, r1x, r2x⟩ := rowT3 RX
  go_wp2_with fail
  generalize (v5.alloc (.cells #[.slice (some a5) n n, .slice (some b5) m m, .slice (some d5) p p] 36)) = v6 at RT1 RW RX OW CP5 TZ5 E_6 z_6 r0x r1x r2x zz_RX ⊢
  clear C_RX
  refine (iCmp_any (unhide HA) ((unhide HE).below E_6 (Nat.le_refl _)) CP5 (unhide HCP)).mono ?_
  rintro e v7 ⟨x1, c1, y1, d1, nv1, rfl, OG, hb7⟩
  clear r0x r1x r2x
  dsimp only at OG
  have E_7 := E_6.trans (hb7.mono E_6.size)
  have z_7 := hb7.size
  replace RT1 := RT1.after hb7 (Nat.le_refl _)
  replace RW := RW.after hb7 (Nat.le_refl _)
  replace RX := RX.after hb7 (Nat.le_refl _)
  replace OW := OW.below hb7 (by have := OW.top; omega)
  replace CP5 := CP5.below hb7
  replace TZ5 := TZ5.below hb7
  clear E_6
  have zt7 := hb7.size
  clear hb7
  dsimp only
  have C_RG := (Below.refl v7.heap.size v7).alloc (Nat.le_refl _) (.cells #[.slice x1 P.length c1, .int .i64 sl, .slice y1 I.length d1] 31)
  have RG := Row.new v7 #[.slice x1 P.length c1, .int .i64 sl, .slice y1 I.length d1] 31
  have zz_RG : v7.heap.size < (v7.alloc (.cells #[.slice x1 P.length c1, .int .i64 sl, .slice y1 I.length d1] 31)).heap.size := by simp
  have E_8 := E_7.trans (C_RG.mono E_7.size)
  have z_8 := C_RG.size
  replace RT1 := RT1.after C_RG (Nat.le_refl _)
  replace RW := RW.after C_RG (Nat.le_refl _)
  replace RX := RX.after C_RG (Nat.le_refl _)
  replace OW := OW.below C_RG (by have := OW.top; omega)
  replace OG := OG.below C_RG (by have := OG.top; omega)
  replace CP5 := CP5.below C_RG
  replace TZ5 := TZ5.below C_RG
  clear E_7
  have VG := hide (OG.vls (unhide Hokc))
  have VW := hide (OW.vls (unhide Hokc))
  obtain ⟨p0, p1, p2⟩ := rowC RW
  obtain ⟨q0, q1, q2⟩ := rowC RG
  go_wp2_with fail
  generalize (v7.alloc (.cells #[.slice x1 P.length c1, .int .i64 sl, .slice y1 I.length d1] 31)) = v8 at RT1 RW RX RG OW OG CP5 TZ5 E_8 z_8 VG VW p0 p1 p2 q0 q1 q2 zz_RG ⊢
  clear C_RG
  refine (eqCode_same _ _ _ _ _ _ _ _ _ _ sl P I _ (unhide VG).1 (unhide VW).1 (unhide VG).2 (unhide VW).2).mono ?_
  rintro e v9 ⟨rfl, hbq⟩
  clear VG VW p0 p1 p2 q0 q1 q2
  have E_9 := E_8.trans (hbq.mono E_8.size)
  have z_9 := hbq.size
  replace RT1 := RT1.after hbq (Nat.le_refl _)
  replace RW := RW.after hbq (Nat.le_refl _)
  replace RX := RX.after hbq (Nat.le_refl _)
  replace RG := RG.after hbq (Nat.le_refl _)
  replace OW := OW.below hbq (by have := OW.top; omega)
  replace OG := OG.below hbq (by have := OG.top; omega)
  replace CP5 := CP5.below hbq
  replace TZ5 := TZ5.below hbq
  clear E_8
  clear hbq
  dsimp only
  obtain ⟨m0, m1, m2⟩ := rowT3 RT1
  obtain ⟨r0x, r1x, r2x⟩ := rowT3 RX
  go_wp2_with fail
  have DR := (Below.refl v9.heap.size v9).drew
  have keep : ∀ w', Below v9.heap.size v9 w' → ((w'.cell? ⟨v5.heap.size, 0, none⟩ = some (.slice (some a5) n n) ∧ w'.cell? ⟨v5.heap.size, 1, none⟩ = some (.slice (some b5) m m) ∧ w'.cell? ⟨v5.heap.size, 2, none⟩ = some (.slice (some d5) p p)) ∧ w'.cell? ⟨w.heap.size, 0, none⟩ = some (.slice a n c) ∧ w'.cell? ⟨w.heap.size, 1, none⟩ = some (.slice b m d) ∧ w'.cell? ⟨w.heap.size, 2, none⟩ = some (.slice f p g)) := fun w' hb => ⟨rowT3 (RX.after hb (Nat.le_refl _)), rowT3 (RT1.after hb (Nat.le_refl _))⟩
  have KP := hide keep
  have s9 := keep _ DR
  have HE9 := hide ((unhide HE).below (E_9.trans (DR.mono E_9.size)) (Nat.le_refl _))
  clear keep m0 m1 m2 r0x r1x r2x
  go_region_held3 (fun w' => (w'.cell? ⟨v5.heap.size, 0, none⟩ = some (.slice (some a5) n n) ∧ w'.cell? ⟨v5.heap.size, 1, none⟩ = some (.slice (some b5) m m) ∧ w'.cell? ⟨v5.heap.size, 2, none⟩ = some (.slice (some d5) p p)) ∧ w'.cell? ⟨w.heap.size, 0, none⟩ = some (.slice a n c) ∧ w'.cell? ⟨w.heap.size, 1, none⟩ = some (.slice b m d) ∧ w'.cell? ⟨w.heap.size, 2, none⟩ = some (.slice f p g)) (first | assumption | fail) (first
    | (go_at_call 6; refine (toT_any (unhide HE9) (unhide Hs)).mono ?_; rintro e v10 ⟨a10, b10, d10, rfl, CP10, hb10, TZ10⟩; have G10 := DR.trans (hb10.mono DR.size); have s10 := unhide KP _ G10; have CPX := CP5.below G10)
    | (go_at_call 9; refine (eqTyped_same _ _ _ _ _ _ _ _ _ _ _ _ _ _ _ N L T _ CPX.1 CP10.1 CPX.2.1 CP10.2.1 CPX.2.2.1 CP10.2.2.1).mono ?_; rintro e v11 ⟨rfl, hb11⟩; have G11 := G10.trans (hb11.mono G10.size); have s11 := unhide KP _ G11))
  clear KP s9 s10 s11 HE9 TZ10 CPX CP10 hb10 hb11 G10 DR CP5
  have E_10 := E_9.trans (G11.mono E_9.size)
  have z_10 := G11.size
  replace RT1 := RT1.after G11 (Nat.le_refl _)
  replace RW := RW.after G11 (Nat.le_refl _)
  replace RX := RX.after G11 (Nat.le_refl _)
  replace RG := RG.after G11 (Nat.le_refl _)
  replace OW := OW.below G11 (by have := OW.top; omega)
  replace OG := OG.below G11 (by have := OG.top; omega)
  replace TZ5 := TZ5.below G11
  clear E_9
  clear G11
  obtain ⟨r0x, r1x, r2x⟩ := rowT3 RX
  go_wp2_with fail
  refine (markTyped_z _ _ _ _ _ n m p _ TZ5 (by omega) (unhide Hs2).1 (unhide Hs2).2.1 (unhide Hs2).2.2).mono ?_
  rintro e v12 ⟨⟨yk, rfl, hyk⟩, T12⟩
  clear r0x r1x r2x TZ5
  have E_11 := below_touch E_10 T12 (by omega) E_10.size
  have z_11 := T12.size
  replace RT1 := rowTouchN RT1 T12 (.inl (by omega))
  replace RW := rowTouchN RW T12 (.inl (by omega))
  replace RX := rowTouchN RX T12 (.inr (by omega))
  replace RG := rowTouchN RG T12 (.inr (by omega))
  replace OW := OW.touch T12 (.inl (by omega))
  replace OG := OG.touch T12 (.inr (by omega))
  clear E_10
  clear T12
  have hzn : ¬ ((yk : Int) < 0) := by omega
  dsimp only
  have VG := hide (OG.vls (unhide Hokc))
  have VW := hide (OW.vls (unhide Hokc))
  obtain ⟨p0, p1, p2⟩ := rowC RW
  obtain ⟨q0, q1, q2⟩ := rowC RG
  go_wp2_with fail
  refine (eqCode_same _ _ _ _ _ _ _ _ _ _ sl P I _ (unhide VG).1 (unhide VW).1 (unhide VG).2 (unhide VW).2).mono ?_
  rintro e v13 ⟨rfl, hbq⟩
  clear VG VW p0 p1 p2 q0 q1 q2
  have E_12 := E_11.trans (hbq.mono E_11.size)
  have z_12 := hbq.size
  replace RT1 := RT1.after hbq (Nat.le_refl _)
  replace RW := RW.after hbq (Nat.le_refl _)
  replace RX := RX.after hbq (Nat.le_refl _)
  replace RG := RG.after hbq (Nat.le_refl _)
  replace OW := OW.below hbq (by have := OW.top; omega)
  replace OG := OG.below hbq (by have := OG.top; omega)
  clear E_11
  clear hbq
  dsimp only
  obtain ⟨q0, q1, q2⟩ := rowC RG
  go_wp2_with fail
  refine (markCode_own _ _ _ _ _ _ _ _ sl P nv1 I _ OG (unhide Hokc)).mono ?_
  rintro e v14 ⟨rfl, OM, T14⟩
  clear q0 q1 q2 OG
  have E_13 := below_touch E_12 T14 (by omega) E_12.size
  have z_13 := T14.size
  replace RT1 := rowTouchN RT1 T14 (.inl (by omega))
  replace RW := rowTouchN RW T14 (.inl (by omega))
  replace RX := rowTouchN RX T14 (.inl (by omega))
  replace RG := rowTouchN RG T14 (.inr (by omega))
  replace OW := OW.touch T14 (.inl (by omega))
  clear E_12
  clear T14
  dsimp only
  obtain ⟨q0, q1, q2⟩ := rowC RG
  go_wp2_with fail
  refine (heldCode_own _ _ _ _ _ _ _ _ sl P nv1 _ OM (unhide Hokc).2.1 (unhide Hokc).1 hIl).mono ?_
  rintro e v15 ⟨rfl, hbh⟩
  clear q0 q1 q2
  have E_14 := E_13.trans (hbh.mono E_13.size)
  have z_14 := hbh.size
  replace RT1 := RT1.after hbh (Nat.le_refl _)
  replace RW := RW.after hbh (Nat.le_refl _)
  replace RX := RX.after hbh (Nat.le_refl _)
  replace RG := RG.after hbh (Nat.le_refl _)
  replace OW := OW.below hbh (by have := OW.top; omega)
  replace OM := OM.below hbh (by have := OM.top; omega)
  clear E_13
  clear hbh
  dsimp only
  have hq : ¬ (mkC P I.length < 0) := by unfold mkC; omega
  obtain ⟨m0, m1, m2⟩ := rowT3 RT1
  go_wp2_with fail
  refine (toT_any ((unhide HE).below E_14 (Nat.le_refl _)) (unhide Hs)).mono ?_
  rintro e v16 ⟨a16, b16, d16, rfl, CP16, hb16, TZ16⟩
  clear m0 m1 m2
  have E_15 := E_14.trans (hb16.mono E_14.size)
  have z_15 := hb16.size
  replace RT1 := RT1.after hb16 (Nat.le_refl _)
  replace RW := RW.after hb16 (Nat.le_refl _)
  replace RX := RX.after hb16 (Nat.le_refl _)
  replace RG := RG.after hb16 (Nat.le_refl _)
  replace OW := OW.below hb16 (by have := OW.top; omega)
  replace OM := OM.below hb16 (by have := OM.top; omega)
  clear E_14
  clear hb16
  dsimp only
  clear TZ16
  go_wp2_with fail
  refine (iCmp_any (unhide HA) ((unhide HE).below E_15 (Nat.le_refl _)) CP16 (unhide HCP)).mono ?_
  rintro e v17 ⟨x2, c2, y2, e2, nv2, rfl, OH, hb17⟩
  clear CP16
  dsimp only at OH
  have E_16 := E_15.trans (hb17.mono E_15.size)
  have z_16 := hb17.size
  replace RT1 := RT1.after hb17 (Nat.le_refl _)
  replace RW := RW.after hb17 (Nat.le_refl _)
  replace RX := RX.after hb17 (Nat.le_refl _)
  replace RG := RG.after hb17 (Nat.le_refl _)
  replace OW := OW.below hb17 (by have := OW.top; omega)
  replace OM := OM.below hb17 (by have := OM.top; omega)
  clear E_15
  clear hb17
  dsimp only
  have C_RH := (Below.refl v17.heap.size v17).alloc (Nat.le_refl _) (.cells #[.slice x2 P.length c2, .int .i64 sl, .slice y2 I.length e2] 31)
  have RH := Row.new v17 #[.slice x2 P.length c2, .int .i64 sl, .slice y2 I.length e2] 31
  have zz_RH : v17.heap.size < (v17.alloc (.cells #[.slice x2 P.length c2, .int .i64 sl, .slice y2 I.length e2] 31)).heap.size := by simp
  have E_17 := E_16.trans (C_RH.mono E_16.size)
  have z_17 := C_RH.size
  replace RT1 := RT1.after C_RH (Nat.le_refl _)
  replace RW := RW.after C_RH (Nat.le_refl _)
  replace RX := RX.after C_RH (Nat.le_refl _)
  replace RG := RG.after C_RH (Nat.le_refl _)
  replace OW := OW.below C_RH (by have := OW.top; omega)
  replace OM := OM.below C_RH (by have := OM.top; omega)
  replace OH := OH.below C_RH (by have := OH.top; omega)
  clear E_16
  have VG := hide (OH.vls (unhide Hokc))
  have VW := hide (OW.vls (unhide Hokc))
  obtain ⟨p0, p1, p2⟩ := rowC RW
  obtain ⟨q0, q1, q2⟩ := rowC RH
  go_wp2_with fail
  generalize (v17.alloc (.cells #[.slice x2 P.length c2, .int .i64 sl, .slice y2 I.length e2] 31)) = v18 at RT1 RW RX RG RH OW OM OH E_17 z_17 VG VW p0 p1 p2 q0 q1 q2 zz_RH ⊢
  clear C_RH
  refine (eqCode_same _ _ _ _ _ _ _ _ _ _ sl P I _ (unhide VG).1 (unhide VW).1 (unhide VG).2 (unhide VW).2).mono ?_
  rintro e v19 ⟨rfl, hbq⟩
  clear VG VW p0 p1 p2 q0 q1 q2
  have E_18 := E_17.trans (hbq.mono E_17.size)
  have z_18 := hbq.size
  replace RT1 := RT1.after hbq (Nat.le_refl _)
  replace RW := RW.after hbq (Nat.le_refl _)
  replace RX := RX.after hbq (Nat.le_refl _)
  replace RG := RG.after hbq (Nat.le_refl _)
  replace RH := RH.after hbq (Nat.le_refl _)
  replace OW := OW.below hbq (by have := OW.top; omega)
  replace OM := OM.below hbq (by have := OM.top; omega)
  replace OH := OH.below hbq (by have := OH.top; omega)
  clear E_17
  clear hbq
  dsimp only
  obtain ⟨q0, q1, q2⟩ := rowC RG
  go_wp2_with fail
  refine (heldCode_own _ _ _ _ _ _ _ _ sl P nv1 _ OM (unhide Hokc).2.1 (unhide Hokc).1 hIl).mono ?_
  rintro e v20 ⟨rfl, hbh⟩
  clear q0 q1 q2
  have E_19 := E_18.trans (hbh.mono E_18.size)
  have z_19 := hbh.size
  replace RT1 := RT1.after hbh (Nat.le_refl _)
  replace RW := RW.after hbh (Nat.le_refl _)
  replace RX := RX.after hbh (Nat.le_refl _)
  replace RG := RG.after hbh (Nat.le_refl _)
  replace RH := RH.after hbh (Nat.le_refl _)
  replace OW := OW.below hbh (by have := OW.top; omega)
  replace OM := OM.below hbh (by have := OM.top; omega)
  replace OH := OH.below hbh (by have := OH.top; omega)
  clear E_18
  clear hbh
  dsimp only
  go_wp2_with fail
  go_ret
  exact ⟨rfl, E_19⟩

end Go.Proofs.YtpbopjgmiaoomaaGreatDoor

/-
  The law of Run, walked. Own work.
-/
import Derived.Test.YtogenboibgddaaaGreatDoorMXAV
namespace Go.Proofs.YtogenboibgddaaaGreatDoor
open Go.RowKit
set_option linter.unusedVariables false

theorem rowTouch {w w' : World} {b lo hi : Nat} {cs : Array Value} {t : TypeId} (h : Row w b cs t) (T : Touch lo hi w w') (hd : b < lo ∨ hi ≤ b) : Row w' b cs t := ⟨(T.block b h.lt hd).trans h.out⟩

theorem Wd.touch {w w' : World} {x : Addr} {n lo hi : Nat} {t : TypeId} (h : Wd w x n t) (T : Touch lo hi w w') (hd : x.block < lo ∨ hi ≤ x.block) : Wd w' x n t := by
  obtain ⟨q, cs, rfl, r, z⟩ := h
  exact ⟨q, cs, rfl, rowTouch r T hd, z⟩

theorem below_set5 {B F : Nat} {X w5 : World} {cs : Array Value} {t : TypeId} (G : Below B X w5) (r : Row w5 F cs t) (h : B ≤ F) (u0 u1 u2 u3 u4 : Value) : Below B X (((((w5.setCell ⟨F, 0, none⟩ u0).setCell ⟨F, 1, none⟩ u1).setCell ⟨F, 2, none⟩ u2).setCell ⟨F, 3, none⟩ u3).setCell ⟨F, 4, none⟩ u4) :=
  ((((G.setCell (p := ⟨F, 0, none⟩) h u0).setCell (p := ⟨F, 1, none⟩) h u1).setCell (p := ⟨F, 2, none⟩) h u2).setCell (p := ⟨F, 3, none⟩) h u3).setCell (p := ⟨F, 4, none⟩) h u4

/-- a statement that is to be found -/
structure Box1 (p : Prop) : Prop where
  out : p

/-- what several ways come to is proved once -/
theorem cutB {P Q : Prop} (h : Box1 P → Q) (p : P) : Q := h ⟨p⟩

theorem step_callR1 {P : Program} {ops : Array Oper} {o : Oper} {a : Act} {w : World} {K : Act → World → Prop} {Q : Exit → Act → World → Prop} {E : Prop} (hgd : o.guard = none) (f : FuncId) (fn : Func) (hf : P.funcs[f]? = some fn) (hname : (fn.name == "runtime.NumGoroutine") = false) (hb : fn.body.isNone = false) (x : Operand) (tys : Array TypeId)
    (ho : o.op = .call { callee := .value (.func f), args := #[x], argTypes := tys }) (v0 : Value) (hx : a.eval x = v0)
    (R : Value → World → Prop) (hc : Calls P f #[v0] w fun e w' => ∃ v, e = .returned v ∧ R v w') (h : ∀ v w', R v w' → K (a.put o.dst v) w') :
    if Region.wanted o (yielded ops a.tmps) = true then Oper.wp P o a w K Q else E := by
  have hw : Region.wanted o (yielded ops a.tmps) = true := by simp [Region.wanted, hgd]
  rw [if_pos hw]
  unfold Oper.wp
  have hrun : (execOp a.eval o).run P w = .ok (.enter f #[v0]) w := by
    subst hx
    have h1 : fn.name ≠ "runtime.NumGoroutine" := by simpa using hname
    have h2 : (callFunc f #[a.eval x]).run P w = .ok (.enter f #[a.eval x]) w := by
      have h3 : fn.body ≠ none := fun e => by rw [e] at hb; cases hb
      simp [callFunc, hf, h1, h3]
    simpa [execOp, ho, resolve, invoke, Act.eval, Result.andThen, go_sem] using h2
  rw [hrun, Oper.upon_enter]
  refine hc.mono ?_
  rintro e w' ⟨v, rfl, hr⟩
  exact h v w' hr

set_option maxRecDepth 100000 in
set_option maxHeartbeats 6400000 in
theorem fnExactRun_walk (a b : Option Addr) (n c m d : Nat) (s : Int) (N : List Vl) (L : List Is1) (R : Rq) (a1 : Option Addr) (n1 c1 : Nat) (a2 : Option Addr) (n2 c2 : Nat) (aT aS aO aZ aW : Addr) (w : World) (h0 : EnvN w a b n c m d N L R a1 n1 c1 a2 n2 c2 aT aS aO aZ aW) (hcl : R.cl.size ≤ maxLen) (hus : R.us.size ≤ maxLen) (hlv : I64 R.lv) (hnw : I64 R.nw) (hnum : ∀ x ∈ N, I64 x.num) :
    Calls Tryz.prog 3 #[.agg #[.slice a n c, .int .i64 s, .slice b m d], .agg #[.string R.cl, .string R.us, .int .i64 R.lv, .int .i64 R.nw, .slice a1 n1 c1, .slice a2 n2 c2]] w fun e w' => e = .returned (.bool true) ∧ Below w.heap.size w w' := by
  have RT := (Row.new w #[.slice a n c, .int .i64 s, .slice b m d] 25).alloc (.cells #[.string R.cl, .string R.us, .int .i64 R.lv, .int .i64 R.nw, .slice a1 n1 c1, .slice a2 n2 c2] 28)
  have RR := Row.new (w.alloc (.cells #[.slice a n c, .int .i64 s, .slice b m d] 25)) #[.string R.cl, .string R.us, .int .i64 R.lv, .int .i64 R.nw, .slice a1 n1 c1, .slice a2 n2 c2] 28
  simp only [World.size_alloc] at RR
  have B0 := ((Below.refl w.heap.size w).alloc (Nat.le_refl _) (.cells #[.slice a n c, .int .i64 s, .slice b m d] 25)).alloc (by simp) (.cells #[.string R.cl, .string R.us, .int .i64 R.lv, .int .i64 R.nw, .slice a1 n1 c1, .slice a2 n2 c2] 28)
  have E0 := h0.below B0 (Nat.le_refl _)
  have HE := hide h0
  go_enter Tryz.func3, Tryz.ntmps3
  go_wp2_with fail
  refine (szCode_any _ _ _ _ _ _ s N L _ E0.vl E0.is).mono ?_
  rintro e w1 ⟨⟨r, rfl, hr⟩, hb1⟩
  have RT1 := RT.after hb1 (Nat.le_refl _)
  have RR1 := RR.after hb1 (Nat.le_refl _)
  have B1 := B0.trans (hb1.mono B0.size)
  clear RT RR B0 E0 hb1 h0
  dsimp only
  by_cases hr0 : r < 0
  · clear hr
    go_wp2_with fail
    go_ret
    exact ⟨rfl, B1⟩
  obtain ⟨r0, r1, hs⟩ := hr.resolve_left (by omega)
  have Hs := hide hs
  obtain ⟨m0, m1, m2⟩ := rowT3 RT1
  obtain ⟨y0, y1, y2, y3, y4, y5⟩ := row6D RR1
  clear hs hr
  go_wp2_with fail
  refine (szRequest_any R.cl R.us R.lv R.nw a1 n1 c1 R.s1 a2 n2 c2 R.s2 r _ hcl hus ((unhide HE).q1.below B1 (Nat.le_refl _)) ((unhide HE).q2.below B1 (Nat.le_refl _)) r0 r1).mono ?_
  rintro e w2 ⟨⟨t, rfl, ht⟩, hb2⟩
  have RT2 := RT1.after hb2 (Nat.le_refl _)
  have RR2 := RR1.after hb2 (Nat.le_refl _)
  have B2 := B1.trans (hb2.mono B1.size)
  clear RT1 RR1 B1 hb2 m0 m1 m2 y0 y1 y2 y3 y4 y5 r0 r1 hr0
  dsimp only
  by_cases ht0 : t < 0
  · clear ht
    go_wp2_with fail
    go_ret
    exact ⟨rfl, B2⟩
  obtain ⟨_, k1, k2⟩ := ht.resolve_left (by omega)
  have Hk := hide (And.intro k1 k2)
  have HA := hide (show ArgN N R from ⟨fun x hx => ⟨((unhide Hs).1.2.1 x hx).2.1, hnum x hx⟩, ⟨by rw [← (unhide HE).q1.len]; exact k1, by rw [← (unhide HE).q2.len]; exact k2⟩, ⟨hcl, hus⟩, hlv, hnw⟩)
  clear ht hnum k1 k2 hcl hus hlv hnw
  go_wp2_with fail
  apply cutB
  · intro HBX
    have hnA : (Tryz.f7.name == "runtime.NumGoroutine") = false := by kernel_rfl
    have hbA : Tryz.f7.body.isNone = false := by kernel_rfl
    have hnB : (Tryz.f8.name == "runtime.NumGoroutine") = false := by kernel_rfl
    have hbB : Tryz.f8.body.isNone = false := by kernel_rfl
    have hnC : (Tryz.f6.name == "runtime.NumGoroutine") = false := by kernel_rfl
    have hbC : Tryz.f6.body.isNone = false := by kernel_rfl
    have D := (Below.refl w2.heap.size w2).drew
    have Da := ((Below.refl w2.heap.size w2).alloc (Nat.le_refl _) (.cells #[.int .i64 0, .int .i64 0, .slice none 0 0, .int .i64 0, .int .i64 0] 34)).drew
    have RZ := (Row.new w2 #[.int .i64 0, .int .i64 0, .slice none 0 0, .int .i64 0, .int .i64 0] 34).after (Below.refl _ _).drew (Nat.le_refl _)
    have keep : ∀ w', Below w2.heap.size w2 w' → ((fun w' => (w'.cell? ⟨w.heap.size, 0, none⟩ = some (.slice a n c) ∧ w'.cell? ⟨w.heap.size, 1, none⟩ = some (.int .i64 s) ∧ w'.cell? ⟨w.heap.size, 2, none⟩ = some (.slice b m d)) ∧ w'.cell? ⟨w.heap.size + 1, 0, none⟩ = some (.string R.cl) ∧ w'.cell? ⟨w.heap.size + 1, 1, none⟩ = some (.string R.us) ∧ w'.cell? ⟨w.heap.size + 1, 2, none⟩ = some (.int .i64 R.lv) ∧ w'.cell? ⟨w.heap.size + 1, 3, none⟩ = some (.int .i64 R.nw) ∧ w'.cell? ⟨w.heap.size + 1, 4, none⟩ = some (.slice a1 n1 c1) ∧ w'.cell? ⟨w.heap.size + 1, 5, none⟩ = some (.slice a2 n2 c2)) w') := fun w' hb => ⟨rowT3 (RT2.after hb (Nat.le_refl _)), row6D (RR2.after hb (Nat.le_refl _))⟩
    have KP := hide keep
    have HX := hide (fun (w' : World) (hb : Below w2.heap.size w2 w') => (unhide HE).below (B2.trans (hb.mono B2.size)) (Nat.le_refl _))
    have q1 := keep _ D
    have q2 := keep _ Da
    clear keep
    go_region_law (first
      | (refine step_callR1 rfl 7 _ Tryz.func7 hnA hbA _ _ rfl (.agg #[.slice a n c, .int .i64 s, .slice b m d]) rfl _ (retC (toC_any (s := s) (unhide HX _ D) (unhide Hs))) ?_; rintro v' w3 ⟨x1, x2, e3, C3, hb3, M3⟩; obtain rfl := ret_inj e3; have G3 := D.trans (hb3.mono D.size); have q3 := unhide KP _ G3; have q3a := unhide KP _ (G3.alloc G3.size (.cells #[.int .i64 0, .int .i64 0, .slice none 0 0, .int .i64 0, .int .i64 0] 34)))
      | (refine step_callR1 rfl 7 _ Tryz.func7 hnA hbA _ _ rfl (.agg #[.slice a n c, .int .i64 s, .slice b m d]) rfl _ (retC (toC_any (s := s) (unhide HX _ Da) (unhide Hs))) ?_; rintro v' w3 ⟨x1, x2, e3, C3, hb3, M3⟩; obtain rfl := ret_inj e3; have G3 := Da.trans (hb3.mono Da.size); have q3 := unhide KP _ G3; have RZ3 := RZ.after hb3 (by simp))
      | (refine step_callR1 rfl 8 _ Tryz.func8 hnB hbB _ _ rfl (.agg #[.string R.cl, .string R.us, .int .i64 R.lv, .int .i64 R.nw, .slice a1 n1 c1, .slice a2 n2 c2]) rfl _ (retR (toR_any (unhide HX _ G3) (unhide Hk).1 (unhide Hk).2)) ?_; rintro v' w4 ⟨z1, z2, e4, C4, hb4, M4⟩; obtain rfl := ret_inj e4; have G4 := G3.trans (hb4.mono G3.size); have q4 := unhide KP _ G4; have RZ4 := RZ3.after hb4 (Nat.le_refl _); have A34 := hb4)
      | (refine step_callR1 rfl 8 _ Tryz.func8 hnB hbB _ _ rfl (.agg #[.string R.cl, .string R.us, .int .i64 R.lv, .int .i64 R.nw, .slice a1 n1 c1, .slice a2 n2 c2]) rfl _ (retR (toR_any (unhide HX _ G3) (unhide Hk).1 (unhide Hk).2)) ?_; rintro v' w4 ⟨z1, z2, e4, C4, hb4, M4⟩; obtain rfl := ret_inj e4; have G4 := G3.trans (hb4.mono G3.size); have q4 := unhide KP _ G4; have q4a := unhide KP _ (G4.alloc G4.size (.cells #[.int .i64 0, .int .i64 0, .slice none 0 0, .int .i64 0, .int .i64 0] 34)); have A34 := hb4)
      | (refine step_callR1 rfl 8 _ Tryz.func8 hnB hbB _ _ rfl (.agg #[.string R.cl, .string R.us, .int .i64 R.lv, .int .i64 R.nw, .slice a1 n1 c1, .slice a2 n2 c2]) rfl _ (retR (toR_any (unhide HX _ (G3.alloc G3.size (.cells #[.int .i64 0, .int .i64 0, .slice none 0 0, .int .i64 0, .int .i64 0] 34))) (unhide Hk).1 (unhide Hk).2)) ?_; rintro v' w4 ⟨z1, z2, e4, C4, hb4, M4⟩; obtain rfl := ret_inj e4; have A34 := ((Below.refl w3.heap.size w3).alloc (Nat.le_refl _) (.cells #[.int .i64 0, .int .i64 0, .slice none 0 0, .int .i64 0, .int .i64 0] 34)).trans (hb4.mono (by simp)); have G4 := G3.trans (A34.mono G3.size); have q4 := unhide KP _ G4; have RZ4 := (Row.new w3 #[.int .i64 0, .int .i64 0, .slice none 0 0, .int .i64 0, .int .i64 0] 34).after hb4 (Nat.le_refl _))
      | (have RZ4' := RZ4; refine step_callR2 rfl 6 _ Tryz.func6 hnC hbC _ _ _ rfl (.agg #[.slice (some x1) n n, .int .i64 s, .slice (some x2) m m]) (.agg #[.string R.cl, .string R.us, .int .i64 R.lv, .int .i64 R.nw, .slice (some z1) n1 n1, .slice (some z2) n2 n2]) rfl rfl _ (retS (sRn_any (s := s) (unhide HA) (C3.below A34 (Nat.le_refl _)) C4)) ?_; rintro v' w5 ⟨o1, o2, ss, p1, p2, hdc, ⟨⟨x, cx, e5, OO⟩, hb5⟩, hlz, hsz⟩; obtain rfl := ret_inj e5; have G5 := G4.trans (hb5.mono G4.size); have A45 := hb5; have RZ5 := RZ4.after hb5 (Nat.le_refl _); obtain ⟨u0, u1, u2, u3, u4⟩ := row5M RZ5; have uf := (fun j => RZ5.frozen j); have G6 := below_set5 G5 RZ5 (by have := G3.size; have := G4.size; omega) (.int .i64 o1) (.int .i64 o2) (.slice x ss.length cx) (.int .i64 p1) (.int .i64 p2))
      | (refine step_callR2 rfl 6 _ Tryz.func6 hnC hbC _ _ _ rfl (.agg #[.slice (some x1) n n, .int .i64 s, .slice (some x2) m m]) (.agg #[.string R.cl, .string R.us, .int .i64 R.lv, .int .i64 R.nw, .slice (some z1) n1 n1, .slice (some z2) n2 n2]) rfl rfl _ (retS (sRn_any (s := s) (unhide HA) (C3.below A34 (Nat.le_refl _)) C4)) ?_; rintro v' w5 ⟨o1, o2, ss, p1, p2, hdc, ⟨⟨x, cx, e5, OO⟩, hb5⟩, hlz, hsz⟩; obtain rfl := ret_inj e5; have G5 := G4.trans (hb5.mono G4.size); have A45 := hb5; have G6 := G5.alloc G5.size (.cells #[.int .i64 o1, .int .i64 o2, .slice x ss.length cx, .int .i64 p1, .int .i64 p2] 34))
      | (refine step_callR2 rfl 6 _ Tryz.func6 hnC hbC _ _ _ rfl (.agg #[.slice (some x1) n n, .int .i64 s, .slice (some x2) m m]) (.agg #[.string R.cl, .string R.us, .int .i64 R.lv, .int .i64 R.nw, .slice (some z1) n1 n1, .slice (some z2) n2 n2]) rfl rfl _ (retS (sRn_any (s := s) (unhide HA) ((C3.below A34 (Nat.le_refl _)).below ((Below.refl w4.heap.size w4).alloc (Nat.le_refl _) (.cells #[.int .i64 0, .int .i64 0, .slice none 0 0, .int .i64 0, .int .i64 0] 34)) (Nat.le_refl _)) (C4.below ((Below.refl w4.heap.size w4).alloc (Nat.le_refl _) (.cells #[.int .i64 0, .int .i64 0, .slice none 0 0, .int .i64 0, .int .i64 0] 34)) (Nat.le_refl _)))) ?_; rintro v' w5 ⟨o1, o2, ss, p1, p2, hdc, ⟨⟨x, cx, e5, OO⟩, hb5⟩, hlz, hsz⟩; obtain rfl := ret_inj e5; have A45 := ((Below.refl w4.heap.size w4).alloc (Nat.le_refl _) (.cells #[.int .i64 0, .int .i64 0, .slice none 0 0, .int .i64 0, .int .i64 0] 34)).trans (hb5.mono (by simp)); have G5 := G4.trans (A45.mono G4.size); have RZ5 := (Row.new w4 #[.int .i64 0, .int .i64 0, .slice none 0 0, .int .i64 0, .int .i64 0] 34).after hb5 (Nat.le_refl _); obtain ⟨u0, u1, u2, u3, u4⟩ := row5M RZ5; have uf := (fun j => RZ5.frozen j); have G6 := below_set5 G5 RZ5 (by have := G3.size; have := G4.size; omega) (.int .i64 o1) (.int .i64 o2) (.slice x ss.length cx) (.int .i64 p1) (.int .i64 p2))
      | fail)
    all_goals first
    | (have RZ9 : Row w5 (w4.heap.size) #[.int .i64 0, .int .i64 0, .slice none 0 0, .int .i64 0, .int .i64 0] 34 := RZ5
       have RW := set5 RZ9 (.int .i64 o1) (.int .i64 o2) (.slice x ss.length cx) (.int .i64 p1) (.int .i64 p2)
       have ne : ∀ q, (Value.slice x ss.length cx).ownBlock = some q → q ≠ w4.heap.size := fun q hq h => own_ne_row RZ9 OO (by decide) (by rw [hq, h])
       have OW := OwnS.of (owns_mono (own5 OO ne (.int .i64 o1) (.int .i64 o2) (.slice x ss.length cx) (.int .i64 p1) (.int .i64 p2)) (Nat.zero_le _)) hsz
       have B6 := B2.trans (G6.mono B2.size)
       have RT6 := RT2.after G6 (Nat.le_refl _)
       have RR6 := RR2.after G6 (Nat.le_refl _)
       have HDC := hide hdc
       have HLZ := hide hlz
       have FC := And.intro RW (And.intro OW (And.intro HDC (And.intro HLZ (And.intro B6 (And.intro RT6 RR6)))))
       clear ne RZ9
       generalize ((((w5.setCell ⟨w4.heap.size, 0, none⟩ (Value.int IntKind.i64 o1)).setCell ⟨w4.heap.size, 1, none⟩ (Value.int IntKind.i64 o2)).setCell ⟨w4.heap.size, 2, none⟩ (Value.slice x ss.length cx)).setCell ⟨w4.heap.size, 3, none⟩ (Value.int IntKind.i64 p1)).setCell ⟨w4.heap.size, 4, none⟩ (Value.int IntKind.i64 p2) = X1 at FC ⊢
       generalize w4.heap.size = F at FC ⊢)
    | (have RZ9 : Row w5 (w3.heap.size) #[.int .i64 0, .int .i64 0, .slice none 0 0, .int .i64 0, .int .i64 0] 34 := RZ5
       have RW := set5 RZ9 (.int .i64 o1) (.int .i64 o2) (.slice x ss.length cx) (.int .i64 p1) (.int .i64 p2)
       have ne : ∀ q, (Value.slice x ss.length cx).ownBlock = some q → q ≠ w3.heap.size := fun q hq h => own_ne_row RZ9 OO (by decide) (by rw [hq, h])
       have OW := OwnS.of (owns_mono (own5 OO ne (.int .i64 o1) (.int .i64 o2) (.slice x ss.length cx) (.int .i64 p1) (.int .i64 p2)) (Nat.zero_le _)) hsz
       have B6 := B2.trans (G6.mono B2.size)
       have RT6 := RT2.after G6 (Nat.le_refl _)
       have RR6 := RR2.after G6 (Nat.le_refl _)
       have HDC := hide hdc
       have HLZ := hide hlz
       have FC := And.intro RW (And.intro OW (And.intro HDC (And.intro HLZ (And.intro B6 (And.intro RT6 RR6)))))
       clear ne RZ9
       generalize ((((w5.setCell ⟨w3.heap.size, 0, none⟩ (Value.int IntKind.i64 o1)).setCell ⟨w3.heap.size, 1, none⟩ (Value.int IntKind.i64 o2)).setCell ⟨w3.heap.size, 2, none⟩ (Value.slice x ss.length cx)).setCell ⟨w3.heap.size, 3, none⟩ (Value.int IntKind.i64 p1)).setCell ⟨w3.heap.size, 4, none⟩ (Value.int IntKind.i64 p2) = X1 at FC ⊢
       generalize w3.heap.size = F at FC ⊢)
    | (have RZ9 : Row w5 (w2.heap.size) #[.int .i64 0, .int .i64 0, .slice none 0 0, .int .i64 0, .int .i64 0] 34 := RZ5
       have RW := set5 RZ9 (.int .i64 o1) (.int .i64 o2) (.slice x ss.length cx) (.int .i64 p1) (.int .i64 p2)
       have ne : ∀ q, (Value.slice x ss.length cx).ownBlock = some q → q ≠ w2.heap.size := fun q hq h => own_ne_row RZ9 OO (by decide) (by rw [hq, h])
       have OW := OwnS.of (owns_mono (own5 OO ne (.int .i64 o1) (.int .i64 o2) (.slice x ss.length cx) (.int .i64 p1) (.int .i64 p2)) (Nat.zero_le _)) hsz
       have B6 := B2.trans (G6.mono B2.size)
       have RT6 := RT2.after G6 (Nat.le_refl _)
       have RR6 := RR2.after G6 (Nat.le_refl _)
       have HDC := hide hdc
       have HLZ := hide hlz
       have FC := And.intro RW (And.intro OW (And.intro HDC (And.intro HLZ (And.intro B6 (And.intro RT6 RR6)))))
       clear ne RZ9
       generalize ((((w5.setCell ⟨w2.heap.size, 0, none⟩ (Value.int IntKind.i64 o1)).setCell ⟨w2.heap.size, 1, none⟩ (Value.int IntKind.i64 o2)).setCell ⟨w2.heap.size, 2, none⟩ (Value.slice x ss.length cx)).setCell ⟨w2.heap.size, 3, none⟩ (Value.int IntKind.i64 p1)).setCell ⟨w2.heap.size, 4, none⟩ (Value.int IntKind.i64 p2) = X1 at FC ⊢
       generalize w2.heap.size = F at FC ⊢)
    | (have RW := Row.new w5 #[.int .i64 o1, .int .i64 o2, .slice x ss.length cx, .int .i64 p1, .int .i64 p2] 34
       have OW := OwnS.of (owns_mono (World.ownsRow.alloc OO (.cells #[.int .i64 o1, .int .i64 o2, .slice x ss.length cx, .int .i64 p1, .int .i64 p2] 34)) (Nat.zero_le _)) hsz
       have B6 := B2.trans (G6.mono B2.size)
       have RT6 := RT2.after G6 (Nat.le_refl _)
       have RR6 := RR2.after G6 (Nat.le_refl _)
       have HDC := hide hdc
       have HLZ := hide hlz
       have FC := And.intro RW (And.intro OW (And.intro HDC (And.intro HLZ (And.intro B6 (And.intro RT6 RR6)))))
       generalize w5.alloc (Obj.cells #[Value.int IntKind.i64 o1, Value.int IntKind.i64 o2, Value.slice x ss.length cx, Value.int IntKind.i64 p1, Value.int IntKind.i64 p2] 34) = X1 at FC ⊢
       generalize w5.heap.size = F at FC ⊢)
    all_goals
      clear RW OW HDC HLZ B6 RT6 RR6 G6 G5 C3 M3 e3 C4 M4 e4 hdc OO hlz hsz e5
      revert FC
      revert F
      revert X1
      revert cx
      revert x
      revert p2
      revert p1
      revert ss
      revert o2
      revert o1
      revert z2
      revert z1
      revert x2
      revert x1
      exact HBX.out
  intro x1 x2 z1 z2 o1 o2 ss p1 p2 x cx X1 F FC
  obtain ⟨RW, OW, HDC, HLZ, B6, RT6, RR6⟩ := FC
  clear RT2 RR2 B2
  obtain ⟨m0, m1, m2⟩ := rowT3 RT6
  obtain ⟨y0, y1, y2, y3, y4, y5⟩ := row6D RR6
  go_wp2_with fail
  refine (toC_any (s := s) ((unhide HE).below B6 (Nat.le_refl _)) (unhide Hs)).mono ?_
  rintro e w6 ⟨t1, t2, rfl, CT, hb6, MT⟩
  have A6 := (Below.refl w6.heap.size w6).alloc (Nat.le_refl _) (.cells #[.slice (some t1) n n, .int .i64 s, .slice (some t2) m m] 39)
  have G6 := hb6.trans (A6.mono hb6.size)
  have RX := Row.new w6 #[.slice (some t1) n n, .int .i64 s, .slice (some t2) m m] 39
  have L1 : w.heap.size + 1 < X1.heap.size := RR6.lt
  have LF : F < X1.heap.size := RW.lt
  have L2 : X1.heap.size ≤ w6.heap.size := hb6.size
  replace RT6 := RT6.after G6 (Nat.le_refl _)
  replace RR6 := RR6.after G6 (Nat.le_refl _)
  replace RW := RW.after G6 (Nat.le_refl _)
  replace OW := OW.below G6 OW.top
  replace B6 := B6.trans (G6.mono B6.size)
  replace CT := CT.below A6 (Nat.le_refl _)
  replace MT := MT.below A6
  clear m0 m1 m2 y0 y1 y2 y3 y4 y5
  clear G6 A6 hb6
  obtain ⟨m0, m1, m2⟩ := rowT3 RT6
  obtain ⟨y0, y1, y2, y3, y4, y5⟩ := row6D RR6
  dsimp only
  go_wp2_with fail
  refine (toR_any ((unhide HE).below B6 (Nat.le_refl _)) (unhide Hk).1 (unhide Hk).2).mono ?_
  rintro e w8 ⟨s1, s2, rfl, CR, hb8, MR⟩
  have A8 := (Below.refl w8.heap.size w8).alloc (Nat.le_refl _) (.cells #[.string R.cl, .string R.us, .int .i64 R.lv, .int .i64 R.nw, .slice (some s1) n1 n1, .slice (some s2) n2 n2] 41)
  have G8 := hb8.trans (A8.mono hb8.size)
  have RY := Row.new w8 #[.string R.cl, .string R.us, .int .i64 R.lv, .int .i64 R.nw, .slice (some s1) n1 n1, .slice (some s2) n2 n2] 41
  have L3 : w6.heap.size + 1 ≤ w8.heap.size := by have := hb8.size; simpa using this
  simp only [World.size_alloc] at MR
  replace RT6 := RT6.after G8 (Nat.le_refl _)
  replace RR6 := RR6.after G8 (Nat.le_refl _)
  replace RW := RW.after G8 (Nat.le_refl _)
  replace RX := RX.after G8 (Nat.le_refl _)
  replace OW := OW.below G8 OW.top
  replace CT := CT.below G8 (Nat.le_refl _)
  replace MT := MT.below G8
  replace B6 := B6.trans (G8.mono B6.size)
  replace CR := CR.below A8 (Nat.le_refl _)
  clear m0 m1 m2 y0 y1 y2 y3 y4 y5
  clear G8 A8 hb8
  obtain ⟨v0, v1, v2⟩ := rowT3 RX
  obtain ⟨u0, u1, u2, u3, u4, u5⟩ := row6D RY
  dsimp only
  go_wp2_with fail
  refine (iRn_any (s := s) (unhide HA) ((unhide HE).below B6 (Nat.le_refl _)) CT CR (unhide HDC)).mono ?_
  rintro r w10 ⟨⟨xg, cg, rfl, OO⟩, hb10⟩
  have A10 := (Below.refl w10.heap.size w10).alloc (Nat.le_refl _) (.cells #[.int .i64 o1, .int .i64 o2, .slice xg ss.length cg, .int .i64 p1, .int .i64 p2] 34)
  have G10 := hb10.trans (A10.mono hb10.size)
  have RG := Row.new w10 #[.int .i64 o1, .int .i64 o2, .slice xg ss.length cg, .int .i64 p1, .int .i64 p2] 34
  have OG := (OwnS.of OO OW.sizes).below A10 (Nat.le_refl _)
  have L4 : w8.heap.size + 1 ≤ w10.heap.size := by have := hb10.size; simpa using this
  simp only [World.size_alloc] at OG
  replace RT6 := RT6.after G10 (Nat.le_refl _)
  replace RR6 := RR6.after G10 (Nat.le_refl _)
  replace RW := RW.after G10 (Nat.le_refl _)
  replace RX := RX.after G10 (Nat.le_refl _)
  replace RY := RY.after G10 (Nat.le_refl _)
  replace OW := OW.below G10 OW.top
  replace CT := CT.below G10 (Nat.le_refl _)
  replace CR := CR.below G10 (Nat.le_refl _)
  replace MT := MT.below G10
  replace B6 := B6.trans (G10.mono B6.size)
  clear v0 v1 v2 u0 u1 u2 u3 u4 u5
  clear G10 A10 hb10 OO
  obtain ⟨v0, v1, v2, v3, v4⟩ := row5M RW
  obtain ⟨u0, u1, u2, u3, u4⟩ := row5M RG
  dsimp only
  go_wp2_with fail
  refine (eqTrace_same o1 o2 _ _ _ _ _ ss p1 p2 _ OG.strs OW.strs).mono ?_
  rintro e w11 ⟨rfl, hb11⟩
  replace RT6 := RT6.after hb11 (Nat.le_refl _)
  replace RR6 := RR6.after hb11 (Nat.le_refl _)
  replace RW := RW.after hb11 (Nat.le_refl _)
  replace RX := RX.after hb11 (Nat.le_refl _)
  replace RY := RY.after hb11 (Nat.le_refl _)
  replace RG := RG.after hb11 (Nat.le_refl _)
  replace OW := OW.below hb11 OW.top
  replace OG := OG.below hb11 OG.top
  replace CT := CT.below hb11 (Nat.le_refl _)
  replace CR := CR.below hb11 (Nat.le_refl _)
  replace MT := MT.below hb11
  replace B6 := B6.trans (hb11.mono B6.size)
  clear v0 v1 v2 v3 v4 u0 u1 u2 u3 u4
  clear hb11
  dsimp only
  go_wp2_with fail
  have D := (Below.refl w11.heap.size w11).drew
  have keep : ∀ w', Below w11.heap.size w11 w' → ((fun w' => (w'.cell? ⟨w6.heap.size, 0, none⟩ = some (.slice (some t1) n n) ∧ w'.cell? ⟨w6.heap.size, 1, none⟩ = some (.int .i64 s) ∧ w'.cell? ⟨w6.heap.size, 2, none⟩ = some (.slice (some t2) m m)) ∧ w'.cell? ⟨w.heap.size, 0, none⟩ = some (.slice a n c) ∧ w'.cell? ⟨w.heap.size, 1, none⟩ = some (.int .i64 s) ∧ w'.cell? ⟨w.heap.size, 2, none⟩ = some (.slice b m d)) w') := fun w' hb => ⟨rowT3 (RX.after hb (Nat.le_refl _)), rowT3 (RT6.after hb (Nat.le_refl _))⟩
  have KP := hide keep
  have EX := (unhide HE).below (B6.trans (D.mono B6.size)) (Nat.le_refl _)
  have q1 := keep _ D
  clear keep
  go_region_held3 (fun w' => (w'.cell? ⟨w6.heap.size, 0, none⟩ = some (.slice (some t1) n n) ∧ w'.cell? ⟨w6.heap.size, 1, none⟩ = some (.int .i64 s) ∧ w'.cell? ⟨w6.heap.size, 2, none⟩ = some (.slice (some t2) m m)) ∧ w'.cell? ⟨w.heap.size, 0, none⟩ = some (.slice a n c) ∧ w'.cell? ⟨w.heap.size, 1, none⟩ = some (.int .i64 s) ∧ w'.cell? ⟨w.heap.size, 2, none⟩ = some (.slice b m d)) (first | assumption | fail)
    (first
      | (go_at_call 7; refine (toC_any (s := s) EX (unhide Hs)).mono ?_; rintro e w12 ⟨e1, e2, rfl, Cb, hba, _⟩; have Ga := D.trans (hba.mono D.size); have qa := unhide KP _ Ga)
      | (go_at_call 11; refine (eqCode_same _ _ _ _ _ _ _ _ _ _ s N L _ (CT.below Ga (Nat.le_refl _)).1 Cb.1 (CT.below Ga (Nat.le_refl _)).2.1 Cb.2.1).mono ?_; rintro e w13 ⟨rfl, hb13⟩; have G13 := Ga.trans (hb13.mono Ga.size); have qb := unhide KP _ G13))
  replace RT6 := RT6.after G13 (Nat.le_refl _)
  replace RR6 := RR6.after G13 (Nat.le_refl _)
  replace RW := RW.after G13 (Nat.le_refl _)
  replace RX := RX.after G13 (Nat.le_refl _)
  replace RY := RY.after G13 (Nat.le_refl _)
  replace RG := RG.after G13 (Nat.le_refl _)
  replace OW := OW.below G13 OW.top
  replace OG := OG.below G13 OG.top
  replace CT := CT.below G13 (Nat.le_refl _)
  replace CR := CR.below G13 (Nat.le_refl _)
  replace MT := MT.below G13
  replace B6 := B6.trans (G13.mono B6.size)
  clear D KP EX q1 qa qb Ga G13 Cb hba hb13
  go_wp2_with fail
  have D := (Below.refl w13.heap.size w13).drew
  have keep : ∀ w', Below w13.heap.size w13 w' → ((fun w' => (w'.cell? ⟨w8.heap.size, 0, none⟩ = some (.string R.cl) ∧ w'.cell? ⟨w8.heap.size, 1, none⟩ = some (.string R.us) ∧ w'.cell? ⟨w8.heap.size, 2, none⟩ = some (.int .i64 R.lv) ∧ w'.cell? ⟨w8.heap.size, 3, none⟩ = some (.int .i64 R.nw) ∧ w'.cell? ⟨w8.heap.size, 4, none⟩ = some (.slice (some s1) n1 n1) ∧ w'.cell? ⟨w8.heap.size, 5, none⟩ = some (.slice (some s2) n2 n2)) ∧ w'.cell? ⟨w.heap.size + 1, 0, none⟩ = some (.string R.cl) ∧ w'.cell? ⟨w.heap.size + 1, 1, none⟩ = some (.string R.us) ∧ w'.cell? ⟨w.heap.size + 1, 2, none⟩ = some (.int .i64 R.lv) ∧ w'.cell? ⟨w.heap.size + 1, 3, none⟩ = some (.int .i64 R.nw) ∧ w'.cell? ⟨w.heap.size + 1, 4, none⟩ = some (.slice a1 n1 c1) ∧ w'.cell? ⟨w.heap.size + 1, 5, none⟩ = some (.slice a2 n2 c2)) w') := fun w' hb => ⟨row6D (RY.after hb (Nat.le_refl _)), row6D (RR6.after hb (Nat.le_refl _))⟩
  have KP := hide keep
  have EX := (unhide HE).below (B6.trans (D.mono B6.size)) (Nat.le_refl _)
  have q1 := keep _ D
  clear keep
  go_region_held3 (fun w' => (w'.cell? ⟨w8.heap.size, 0, none⟩ = some (.string R.cl) ∧ w'.cell? ⟨w8.heap.size, 1, none⟩ = some (.string R.us) ∧ w'.cell? ⟨w8.heap.size, 2, none⟩ = some (.int .i64 R.lv) ∧ w'.cell? ⟨w8.heap.size, 3, none⟩ = some (.int .i64 R.nw) ∧ w'.cell? ⟨w8.heap.size, 4, none⟩ = some (.slice (some s1) n1 n1) ∧ w'.cell? ⟨w8.heap.size, 5, none⟩ = some (.slice (some s2) n2 n2)) ∧ w'.cell? ⟨w.heap.size + 1, 0, none⟩ = some (.string R.cl) ∧ w'.cell? ⟨w.heap.size + 1, 1, none⟩ = some (.string R.us) ∧ w'.cell? ⟨w.heap.size + 1, 2, none⟩ = some (.int .i64 R.lv) ∧ w'.cell? ⟨w.heap.size + 1, 3, none⟩ = some (.int .i64 R.nw) ∧ w'.cell? ⟨w.heap.size + 1, 4, none⟩ = some (.slice a1 n1 c1) ∧ w'.cell? ⟨w.heap.size + 1, 5, none⟩ = some (.slice a2 n2 c2)) (first | assumption | fail)
    (first
      | (go_at_call 8; refine (toR_any EX (unhide Hk).1 (unhide Hk).2).mono ?_; rintro e w14 ⟨e1, e2, rfl, Cb, hba, _⟩; have Ga := D.trans (hba.mono D.size); have qa := unhide KP _ Ga)
      | (go_at_call 12; refine (eqRequest_same _ _ _ _ _ _ _ R.s1 _ _ _ R.s2 _ _ _ _ _ (CR.below Ga (Nat.le_refl _)).1.1 (CR.below Ga (Nat.le_refl _)).1.2 Cb.1.1 Cb.1.2).mono ?_; rintro e w15 ⟨rfl, hb15⟩; have G15 := Ga.trans (hb15.mono Ga.size); have qb := unhide KP _ G15))
  replace RT6 := RT6.after G15 (Nat.le_refl _)
  replace RR6 := RR6.after G15 (Nat.le_refl _)
  replace RW := RW.after G15 (Nat.le_refl _)
  replace RX := RX.after G15 (Nat.le_refl _)
  replace RY := RY.after G15 (Nat.le_refl _)
  replace RG := RG.after G15 (Nat.le_refl _)
  replace OW := OW.below G15 OW.top
  replace OG := OG.below G15 OG.top
  replace CT := CT.below G15 (Nat.le_refl _)
  replace CR := CR.below G15 (Nat.le_refl _)
  replace MT := MT.below G15
  replace B6 := B6.trans (G15.mono B6.size)
  clear D KP EX q1 qa qb Ga G15 Cb hba hb15
  obtain ⟨v0, v1, v2⟩ := rowT3 RX
  obtain ⟨u0, u1, u2, u3, u4, u5⟩ := row6D RY
  skip
  go_wp2_with fail
  refine (markCd_z X1.heap.size w6.heap.size t1 t2 n m s N L _ MT (unhide Hs)).mono ?_
  rintro e w16 ⟨⟨y, rfl, hy⟩, T16⟩
  replace RT6 := rowTouch RT6 T16 (.inl (by omega))
  replace RR6 := rowTouch RR6 T16 (.inl (by omega))
  replace RW := rowTouch RW T16 (.inl (by omega))
  replace RY := rowTouch RY T16 (.inr (by omega))
  replace RG := rowTouch RG T16 (.inr (by omega))
  replace OW := OW.touch T16 (.inl (Nat.le_refl _))
  replace OG := OG.touch T16 (.inr (by omega))
  have W1 := CR.2.1.touch T16 (.inr (by have := MR.1.1; omega))
  have W2 := CR.2.2.touch T16 (.inr (by have := MR.2.1; omega))
  replace B6 := below_touch B6 T16 (by omega) B6.size
  clear v0 v1 v2 u0 u1 u2 u3 u4 u5
  obtain ⟨u0, u1, u2, u3, u4, u5⟩ := row6D RY
  clear CT MT CR T16 RX
  dsimp only
  go_wp2_with fail
  refine (markRequest_z R.cl R.us R.lv R.nw s1 s2 n1 n2 (w6.heap.size + 1) w8.heap.size y _ W1 W2 MR.1 MR.2 (Nat.le_of_lt RY.lt) hy (unhide Hk).1 (unhide Hk).2).mono ?_
  rintro e w17 ⟨⟨z, rfl, hz⟩, T17⟩
  replace RT6 := rowTouch RT6 T17 (.inl (by omega))
  replace RR6 := rowTouch RR6 T17 (.inl (by omega))
  replace RW := rowTouch RW T17 (.inl (by omega))
  replace RG := rowTouch RG T17 (.inr (by omega))
  replace OW := OW.touch T17 (.inl (by omega))
  replace OG := OG.touch T17 (.inr (by omega))
  replace B6 := below_touch B6 T17 (by omega) B6.size
  clear u0 u1 u2 u3 u4 u5
  clear T17 W1 W2 RY MR hy
  have znn : ¬ ((z : Int) < 0) := by omega
  obtain ⟨v0, v1, v2, v3, v4⟩ := row5M RW
  obtain ⟨u0, u1, u2, u3, u4⟩ := row5M RG
  dsimp only
  go_wp2_with fail
  refine (eqTrace_same o1 o2 _ _ _ _ _ ss p1 p2 _ OG.strs OW.strs).mono ?_
  rintro e w18 ⟨rfl, hb18⟩
  replace RT6 := RT6.after hb18 (Nat.le_refl _)
  replace RR6 := RR6.after hb18 (Nat.le_refl _)
  replace RW := RW.after hb18 (Nat.le_refl _)
  replace RG := RG.after hb18 (Nat.le_refl _)
  replace OW := OW.below hb18 OW.top
  replace OG := OG.below hb18 OG.top
  replace B6 := B6.trans (hb18.mono B6.size)
  clear v0 v1 v2 v3 v4 u0 u1 u2 u3 u4
  clear hb18 znn hz
  obtain ⟨u0, u1, u2, u3, u4⟩ := row5M RG
  dsimp only
  go_wp2_with fail
  refine (markTrace_any o1 o2 _ _ _ _ _ ss p1 p2 _ OG (unhide HLZ)).mono ?_
  rintro e w19 ⟨rfl, OM, T19⟩
  replace RT6 := rowTouch RT6 T19 (.inl (by omega))
  replace RR6 := rowTouch RR6 T19 (.inl (by omega))
  replace RW := rowTouch RW T19 (.inl (by omega))
  replace RG := rowTouch RG T19 (.inr (by omega))
  replace OW := OW.touch T19 (.inl (by omega))
  replace B6 := below_touch B6 T19 (by omega) B6.size
  clear OG T19
  clear u0 u1 u2 u3 u4
  obtain ⟨u0, u1, u2, u3, u4⟩ := row5M RG
  dsimp only
  go_wp2_with fail
  refine (heldTrace_any o1 o2 _ _ _ p1 p2 _ OM.strs (unhide HLZ)).mono ?_
  rintro e w20 ⟨rfl, hb20⟩
  replace RT6 := RT6.after hb20 (Nat.le_refl _)
  replace RR6 := RR6.after hb20 (Nat.le_refl _)
  replace RW := RW.after hb20 (Nat.le_refl _)
  replace RG := RG.after hb20 (Nat.le_refl _)
  replace OW := OW.below hb20 OW.top
  replace OM := OM.below hb20 OM.top
  replace B6 := B6.trans (hb20.mono B6.size)
  clear hb20
  have hq : ¬ ((1 : Int) + (ss.length : Int) < 0) := by omega
  clear u0 u1 u2 u3 u4
  dsimp only
  go_wp2_with fail
  apply cutB
  · intro HBX
    have hnA : (Tryz.f7.name == "runtime.NumGoroutine") = false := by kernel_rfl
    have hbA : Tryz.f7.body.isNone = false := by kernel_rfl
    have hnB : (Tryz.f8.name == "runtime.NumGoroutine") = false := by kernel_rfl
    have hbB : Tryz.f8.body.isNone = false := by kernel_rfl
    have hnC : (Tryz.f9.name == "runtime.NumGoroutine") = false := by kernel_rfl
    have hbC : Tryz.f9.body.isNone = false := by kernel_rfl
    have D := (Below.refl w20.heap.size w20).drew
    have Da := ((Below.refl w20.heap.size w20).alloc (Nat.le_refl _) (.cells #[.int .i64 0, .int .i64 0, .slice none 0 0, .int .i64 0, .int .i64 0] 34)).drew
    have RZ := (Row.new w20 #[.int .i64 0, .int .i64 0, .slice none 0 0, .int .i64 0, .int .i64 0] 34).after (Below.refl _ _).drew (Nat.le_refl _)
    have keep : ∀ w', Below w20.heap.size w20 w' → ((fun w' => (w'.cell? ⟨w.heap.size, 0, none⟩ = some (.slice a n c) ∧ w'.cell? ⟨w.heap.size, 1, none⟩ = some (.int .i64 s) ∧ w'.cell? ⟨w.heap.size, 2, none⟩ = some (.slice b m d)) ∧ w'.cell? ⟨w.heap.size + 1, 0, none⟩ = some (.string R.cl) ∧ w'.cell? ⟨w.heap.size + 1, 1, none⟩ = some (.string R.us) ∧ w'.cell? ⟨w.heap.size + 1, 2, none⟩ = some (.int .i64 R.lv) ∧ w'.cell? ⟨w.heap.size + 1, 3, none⟩ = some (.int .i64 R.nw) ∧ w'.cell? ⟨w.heap.size + 1, 4, none⟩ = some (.slice a1 n1 c1) ∧ w'.cell? ⟨w.heap.size + 1, 5, none⟩ = some (.slice a2 n2 c2)) w') := fun w' hb => ⟨rowT3 (RT6.after hb (Nat.le_refl _)), row6D (RR6.after hb (Nat.le_refl _))⟩
    have KP := hide keep
    have HX := hide (fun (w' : World) (hb : Below w20.heap.size w20 w') => (unhide HE).below (B6.trans (hb.mono B6.size)) (Nat.le_refl _))
    have q1 := keep _ D
    have q2 := keep _ Da
    clear keep
    go_region_law (first
      | (refine step_callR1 rfl 7 _ Tryz.func7 hnA hbA _ _ rfl (.agg #[.slice a n c, .int .i64 s, .slice b m d]) rfl _ (retC (toC_any (s := s) (unhide HX _ D) (unhide Hs))) ?_; rintro v' w3 ⟨x1, x2, e3, C3, hb3, M3⟩; obtain rfl := ret_inj e3; have G3 := D.trans (hb3.mono D.size); have q3 := unhide KP _ G3; have q3a := unhide KP _ (G3.alloc G3.size (.cells #[.int .i64 0, .int .i64 0, .slice none 0 0, .int .i64 0, .int .i64 0] 34)))
      | (refine step_callR1 rfl 7 _ Tryz.func7 hnA hbA _ _ rfl (.agg #[.slice a n c, .int .i64 s, .slice b m d]) rfl _ (retC (toC_any (s := s) (unhide HX _ Da) (unhide Hs))) ?_; rintro v' w3 ⟨x1, x2, e3, C3, hb3, M3⟩; obtain rfl := ret_inj e3; have G3 := Da.trans (hb3.mono Da.size); have q3 := unhide KP _ G3; have RZ3 := RZ.after hb3 (by simp))
      | (refine step_callR1 rfl 8 _ Tryz.func8 hnB hbB _ _ rfl (.agg #[.string R.cl, .string R.us, .int .i64 R.lv, .int .i64 R.nw, .slice a1 n1 c1, .slice a2 n2 c2]) rfl _ (retR (toR_any (unhide HX _ G3) (unhide Hk).1 (unhide Hk).2)) ?_; rintro v' w4 ⟨z1, z2, e4, C4, hb4, M4⟩; obtain rfl := ret_inj e4; have G4 := G3.trans (hb4.mono G3.size); have q4 := unhide KP _ G4; have RZ4 := RZ3.after hb4 (Nat.le_refl _); have A34 := hb4)
      | (refine step_callR1 rfl 8 _ Tryz.func8 hnB hbB _ _ rfl (.agg #[.string R.cl, .string R.us, .int .i64 R.lv, .int .i64 R.nw, .slice a1 n1 c1, .slice a2 n2 c2]) rfl _ (retR (toR_any (unhide HX _ G3) (unhide Hk).1 (unhide Hk).2)) ?_; rintro v' w4 ⟨z1, z2, e4, C4, hb4, M4⟩; obtain rfl := ret_inj e4; have G4 := G3.trans (hb4.mono G3.size); have q4 := unhide KP _ G4; have q4a := unhide KP _ (G4.alloc G4.size (.cells #[.int .i64 0, .int .i64 0, .slice none 0 0, .int .i64 0, .int .i64 0] 34)); have A34 := hb4)
      | (refine step_callR1 rfl 8 _ Tryz.func8 hnB hbB _ _ rfl (.agg #[.string R.cl, .string R.us, .int .i64 R.lv, .int .i64 R.nw, .slice a1 n1 c1, .slice a2 n2 c2]) rfl _ (retR (toR_any (unhide HX _ (G3.alloc G3.size (.cells #[.int .i64 0, .int .i64 0, .slice none 0 0, .int .i64 0, .int .i64 0] 34))) (unhide Hk).1 (unhide Hk).2)) ?_; rintro v' w4 ⟨z1, z2, e4, C4, hb4, M4⟩; obtain rfl := ret_inj e4; have A34 := ((Below.refl w3.heap.size w3).alloc (Nat.le_refl _) (.cells #[.int .i64 0, .int .i64 0, .slice none 0 0, .int .i64 0, .int .i64 0] 34)).trans (hb4.mono (by simp)); have G4 := G3.trans (A34.mono G3.size); have q4 := unhide KP _ G4; have RZ4 := (Row.new w3 #[.int .i64 0, .int .i64 0, .slice none 0 0, .int .i64 0, .int .i64 0] 34).after hb4 (Nat.le_refl _))
      | (have RZ4' := RZ4; refine step_callR2 rfl 9 _ Tryz.func9 hnC hbC _ _ _ rfl (.agg #[.slice (some x1) n n, .int .i64 s, .slice (some x2) m m]) (.agg #[.string R.cl, .string R.us, .int .i64 R.lv, .int .i64 R.nw, .slice (some z1) n1 n1, .slice (some z2) n2 n2]) rfl rfl _ (retI (iRn_any (s := s) (unhide HA) (unhide HX _ G4) (C3.below A34 (Nat.le_refl _)) C4 (unhide HDC))) ?_; rintro v' w5 ⟨⟨xh, ch, e5, OO⟩, hb5⟩; obtain rfl := ret_inj e5; have G5 := G4.trans (hb5.mono G4.size); have A45 := hb5; have RZ5 := RZ4.after hb5 (Nat.le_refl _); obtain ⟨u0, u1, u2, u3, u4⟩ := row5M RZ5; have uf := (fun j => RZ5.frozen j); have G6 := below_set5 G5 RZ5 (by have := G3.size; have := G4.size; omega) (.int .i64 o1) (.int .i64 o2) (.slice xh ss.length ch) (.int .i64 p1) (.int .i64 p2))
      | (refine step_callR2 rfl 9 _ Tryz.func9 hnC hbC _ _ _ rfl (.agg #[.slice (some x1) n n, .int .i64 s, .slice (some x2) m m]) (.agg #[.string R.cl, .string R.us, .int .i64 R.lv, .int .i64 R.nw, .slice (some z1) n1 n1, .slice (some z2) n2 n2]) rfl rfl _ (retI (iRn_any (s := s) (unhide HA) (unhide HX _ G4) (C3.below A34 (Nat.le_refl _)) C4 (unhide HDC))) ?_; rintro v' w5 ⟨⟨xh, ch, e5, OO⟩, hb5⟩; obtain rfl := ret_inj e5; have G5 := G4.trans (hb5.mono G4.size); have A45 := hb5; have G6 := G5.alloc G5.size (.cells #[.int .i64 o1, .int .i64 o2, .slice xh ss.length ch, .int .i64 p1, .int .i64 p2] 34))
      | (refine step_callR2 rfl 9 _ Tryz.func9 hnC hbC _ _ _ rfl (.agg #[.slice (some x1) n n, .int .i64 s, .slice (some x2) m m]) (.agg #[.string R.cl, .string R.us, .int .i64 R.lv, .int .i64 R.nw, .slice (some z1) n1 n1, .slice (some z2) n2 n2]) rfl rfl _ (retI (iRn_any (s := s) (unhide HA) (unhide HX _ (G4.alloc G4.size (.cells #[.int .i64 0, .int .i64 0, .slice none 0 0, .int .i64 0, .int .i64 0] 34))) ((C3.below A34 (Nat.le_refl _)).below ((Below.refl w4.heap.size w4).alloc (Nat.le_refl _) (.cells #[.int .i64 0, .int .i64 0, .slice none 0 0, .int .i64 0, .int .i64 0] 34)) (Nat.le_refl _)) (C4.below ((Below.refl w4.heap.size w4).alloc (Nat.le_refl _) (.cells #[.int .i64 0, .int .i64 0, .slice none 0 0, .int .i64 0, .int .i64 0] 34)) (Nat.le_refl _)) (unhide HDC))) ?_; rintro v' w5 ⟨⟨xh, ch, e5, OO⟩, hb5⟩; obtain rfl := ret_inj e5; have A45 := ((Below.refl w4.heap.size w4).alloc (Nat.le_refl _) (.cells #[.int .i64 0, .int .i64 0, .slice none 0 0, .int .i64 0, .int .i64 0] 34)).trans (hb5.mono (by simp)); have G5 := G4.trans (A45.mono G4.size); have RZ5 := (Row.new w4 #[.int .i64 0, .int .i64 0, .slice none 0 0, .int .i64 0, .int .i64 0] 34).after hb5 (Nat.le_refl _); obtain ⟨u0, u1, u2, u3, u4⟩ := row5M RZ5; have uf := (fun j => RZ5.frozen j); have G6 := below_set5 G5 RZ5 (by have := G3.size; have := G4.size; omega) (.int .i64 o1) (.int .i64 o2) (.slice xh ss.length ch) (.int .i64 p1) (.int .i64 p2))
      | fail)
    all_goals first
    | (have RZ9 : Row w5 (w4.heap.size) #[.int .i64 0, .int .i64 0, .slice none 0 0, .int .i64 0, .int .i64 0] 34 := RZ5
       have RH := set5 RZ9 (.int .i64 o1) (.int .i64 o2) (.slice xh ss.length ch) (.int .i64 p1) (.int .i64 p2)
       have ne : ∀ q, (Value.slice xh ss.length ch).ownBlock = some q → q ≠ w4.heap.size := fun q hq h => own_ne_row RZ9 OO (by decide) (by rw [hq, h])
       have HS := Strs.of_owns (own5 OO ne (.int .i64 o1) (.int .i64 o2) (.slice xh ss.length ch) (.int .i64 p1) (.int .i64 p2)) OW.sizes
       replace OW := OW.below G6 OW.top
       replace RW := RW.after G6 (Nat.le_refl _)
       replace RG := RG.after G6 (Nat.le_refl _)
       replace OM := OM.below G6 OM.top
       replace B6 := B6.trans (G6.mono B6.size)
       have FC := And.intro RH (And.intro HS (And.intro RW (And.intro OW (And.intro RG (And.intro OM B6)))))
       clear ne RZ9
       generalize ((((w5.setCell ⟨w4.heap.size, 0, none⟩ (Value.int IntKind.i64 o1)).setCell ⟨w4.heap.size, 1, none⟩ (Value.int IntKind.i64 o2)).setCell ⟨w4.heap.size, 2, none⟩ (Value.slice xh ss.length ch)).setCell ⟨w4.heap.size, 3, none⟩ (Value.int IntKind.i64 p1)).setCell ⟨w4.heap.size, 4, none⟩ (Value.int IntKind.i64 p2) = X2 at FC ⊢
       generalize w4.heap.size = F2 at FC ⊢)
    | (have RZ9 : Row w5 (w3.heap.size) #[.int .i64 0, .int .i64 0, .slice none 0 0, .int .i64 0, .int .i64 0] 34 := RZ5
       have RH := set5 RZ9 (.int .i64 o1) (.int .i64 o2) (.slice xh ss.length ch) (.int .i64 p1) (.int .i64 p2)
       have ne : ∀ q, (Value.slice xh ss.length ch).ownBlock = some q → q ≠ w3.heap.size := fun q hq h => own_ne_row RZ9 OO (by decide) (by rw [hq, h])
       have HS := Strs.of_owns (own5 OO ne (.int .i64 o1) (.int .i64 o2) (.slice xh ss.length ch) (.int .i64 p1) (.int .i64 p2)) OW.sizes
       replace OW := OW.below G6 OW.top
       replace RW := RW.after G6 (Nat.le_refl _)
       replace RG := RG.after G6 (Nat.le_refl _)
       replace OM := OM.below G6 OM.top
       replace B6 := B6.trans (G6.mono B6.size)
       have FC := And.intro RH (And.intro HS (And.intro RW (And.intro OW (And.intro RG (And.intro OM B6)))))
       clear ne RZ9
       generalize ((((w5.setCell ⟨w3.heap.size, 0, none⟩ (Value.int IntKind.i64 o1)).setCell ⟨w3.heap.size, 1, none⟩ (Value.int IntKind.i64 o2)).setCell ⟨w3.heap.size, 2, none⟩ (Value.slice xh ss.length ch)).setCell ⟨w3.heap.size, 3, none⟩ (Value.int IntKind.i64 p1)).setCell ⟨w3.heap.size, 4, none⟩ (Value.int IntKind.i64 p2) = X2 at FC ⊢
       generalize w3.heap.size = F2 at FC ⊢)
    | (have RZ9 : Row w5 (w20.heap.size) #[.int .i64 0, .int .i64 0, .slice none 0 0, .int .i64 0, .int .i64 0] 34 := RZ5
       have RH := set5 RZ9 (.int .i64 o1) (.int .i64 o2) (.slice xh ss.length ch) (.int .i64 p1) (.int .i64 p2)
       have ne : ∀ q, (Value.slice xh ss.length ch).ownBlock = some q → q ≠ w20.heap.size := fun q hq h => own_ne_row RZ9 OO (by decide) (by rw [hq, h])
       have HS := Strs.of_owns (own5 OO ne (.int .i64 o1) (.int .i64 o2) (.slice xh ss.length ch) (.int .i64 p1) (.int .i64 p2)) OW.sizes
       replace OW := OW.below G6 OW.top
       replace RW := RW.after G6 (Nat.le_refl _)
       replace RG := RG.after G6 (Nat.le_refl _)
       replace OM := OM.below G6 OM.top
       replace B6 := B6.trans (G6.mono B6.size)
       have FC := And.intro RH (And.intro HS (And.intro RW (And.intro OW (And.intro RG (And.intro OM B6)))))
       clear ne RZ9
       generalize ((((w5.setCell ⟨w20.heap.size, 0, none⟩ (Value.int IntKind.i64 o1)).setCell ⟨w20.heap.size, 1, none⟩ (Value.int IntKind.i64 o2)).setCell ⟨w20.heap.size, 2, none⟩ (Value.slice xh ss.length ch)).setCell ⟨w20.heap.size, 3, none⟩ (Value.int IntKind.i64 p1)).setCell ⟨w20.heap.size, 4, none⟩ (Value.int IntKind.i64 p2) = X2 at FC ⊢
       generalize w20.heap.size = F2 at FC ⊢)
    | (have RH := Row.new w5 #[.int .i64 o1, .int .i64 o2, .slice xh ss.length ch, .int .i64 p1, .int .i64 p2] 34
       have HS := Strs.of_owns (World.ownsRow.alloc OO (.cells #[.int .i64 o1, .int .i64 o2, .slice xh ss.length ch, .int .i64 p1, .int .i64 p2] 34)) OW.sizes
       replace OW := OW.below G6 OW.top
       replace RW := RW.after G6 (Nat.le_refl _)
       replace RG := RG.after G6 (Nat.le_refl _)
       replace OM := OM.below G6 OM.top
       replace B6 := B6.trans (G6.mono B6.size)
       have FC := And.intro RH (And.intro HS (And.intro RW (And.intro OW (And.intro RG (And.intro OM B6)))))
       generalize w5.alloc (Obj.cells #[Value.int IntKind.i64 o1, Value.int IntKind.i64 o2, Value.slice xh ss.length ch, Value.int IntKind.i64 p1, Value.int IntKind.i64 p2] 34) = X2 at FC ⊢
       generalize w5.heap.size = F2 at FC ⊢)
    all_goals
      clear RH HS RW OW RG OM B6 G6 G5 C3 M3 e3 C4 M4 e4 OO e5
      revert FC
      revert F2
      revert X2
      revert ch
      revert xh
      revert z2
      revert z1
      revert x2
      revert x1
      exact HBX.out
  intro x1 x2 z1 z2 xh ch X2 F2 FC
  clear RT6 RR6 RW OW RG OM B6
  obtain ⟨RH, HS, RW, OW, RG, OM, B6⟩ := FC
  obtain ⟨v0, v1, v2, v3, v4⟩ := row5M RH
  obtain ⟨u0, u1, u2, u3, u4⟩ := row5M RW
  go_wp2_with fail
  refine (eqTrace_same o1 o2 _ _ _ _ _ ss p1 p2 _ HS OW.strs).mono ?_
  rintro e w21 ⟨rfl, hb21⟩
  replace RG := RG.after hb21 (Nat.le_refl _)
  replace OM := OM.below hb21 OM.top
  replace B6 := B6.trans (hb21.mono B6.size)
  clear hb21 HS OW RW RH
  clear v0 v1 v2 v3 v4 u0 u1 u2 u3 u4
  obtain ⟨u0, u1, u2, u3, u4⟩ := row5M RG
  dsimp only
  go_wp2_with fail
  refine (heldTrace_any o1 o2 _ _ _ p1 p2 _ OM.strs (unhide HLZ)).mono ?_
  rintro e w22 ⟨rfl, hb22⟩
  replace B6 := B6.trans (hb22.mono B6.size)
  dsimp only
  go_wp2_with fail
  go_ret
  exact ⟨rfl, B6⟩

end Go.Proofs.YtogenboibgddaaaGreatDoor

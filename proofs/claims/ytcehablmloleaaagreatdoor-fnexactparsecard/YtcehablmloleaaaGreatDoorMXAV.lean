/-
  GY, HA. Own work.
-/
import Derived.Test.YtcehablmloleaaaGreatDoorGX
import Derived.Test.YtcehablmloleaaaGreatDoorGW
import Derived.Test.YtcehablmloleaaaGreatDoorMXAQ
import Derived.Test.YtcehablmloleaaaGreatDoorMXAM
namespace Go.Proofs.YtcehablmloleaaaGreatDoor
open Go.RowKit
set_option linter.unusedVariables false
variable {a1 a2 a3 a4 a5 a6 : Addr}

theorem mx_max (a b : Int) : mx a b = max a b := by unfold mx; split <;> omega

/-- an error with its place, or none -/
def ErN (a4 a5 a6 : Addr) (c : Int) (o : Option Int) (w : World) (r : Ending) (w' : World) : Prop :=
  (match o with
   | none => r = .returned .nilIface
   | some i => ∃ b, r = .returned (errP b) ∧ ErP a4 a5 a6 c i b w') ∧ Below w.heap.size w w'

theorem shX_drop {X : List Sx} {k : Nat} (hk : k < X.length) : shX (X.drop k) = if 64 < mx (dpO X[k].cond) (dpO X[k].grant) then some X[k].at' else shX (X.drop (k + 1)) := by
  rw [List.drop_eq_getElem_cons hk, shX]

set_option maxRecDepth 100000 in
set_option maxHeartbeats 3200000 in
theorem shallow_any (X : List Sx) (v : Value) (w : World) (lo : Nat) (a : Option Addr) (cx : Nat) (hv : w.ownsRow lo 111 5 (.slice a X.length cx) X.length (sxC X)) (hc : ∀ x ∈ X, cntO x.cond ≤ 65535 ∧ cntO x.grant ≤ 65535) (hn : X.length ≤ 4000) (S : S6 w a1 a2 a3 a4 a5 a6) :
    Calls Tryz.prog 38 #[.slice a X.length cx] w (ErN a4 a5 a6 6 (shX X) w) := by
  have HC := hide hc
  have HV := hide hv
  have HS := hide S
  have HX := hide (show shX X = shX (X.drop 0) by rw [List.drop_zero])
  clear hc hv S
  generalize hm : X.length = m at *
  have HM := hide hm
  clear hm
  go_enter Tryz.func38, Tryz.ntmps38
  go_wp2_with fail
  go_loopw [7] (fun i wr => ∃ k : Nat, k ≤ m ∧ i = .int .i64 k ∧ shX X = shX (X.drop k) ∧ Below w.heap.size w wr) (fun i _ => m - (intOf i).toNat)
  case atStart => exact ⟨0, Nat.zero_le _, rfl, unhide HX, Below.refl _ _⟩
  case round =>
    clear HX
    obtain ⟨k, hk, rfl, hx, B1⟩ := hrel
    have HX := hide hx
    clear hx
    by_cases hlt : k < m
    · have ilt : (k : Int) < (m : Int) := by omega
      have hkl : k < X.length := by rw [unhide HM]; exact hlt
      obtain ⟨x0, c0, hf, hcell⟩ := owns_form2 (unhide HV)
      obtain ⟨g, hg, hlo, hcells⟩ := hcell (by omega)
      have ea : a = some ⟨g, 0, none⟩ := by injection hf with h1; rw [h1]; exact hg
      subst ea
      have glt : g < w.heap.size := ((unhide HV).lt g rfl).2
      have at5 : ∀ r, r < 5 → ∀ u, (sxV X[k])[r]? = some u → wr.cell? ⟨g, k * 5 + r, none⟩ = some u := fun r hr u hu => by
        rw [B1.cell (p := ⟨g, k * 5 + r, none⟩) glt]
        refine hcells _ _ ?_
        rw [sxC_at X k hkl r hr]
        exact hu
      have q0 := at5 0 (by decide) _ rfl
      have q1 := at5 1 (by decide) _ rfl
      have q2 := at5 2 (by decide) _ rfl
      have q3 := at5 3 (by decide) _ rfl
      have q4 := at5 4 (by decide) _ rfl
      simp only [Nat.add_zero] at q0
      obtain ⟨hc1, hc2⟩ := unhide HC X[k] (List.getElem_mem hkl)
      have HD1 := hide (fun w => depthO X[k].cond hc1 w)
      have HD2 := hide (fun w => depthO X[k].grant hc2 w)
      have HSH := hide (shX_drop hkl)
      have f3 := optX_one X[k].cond
      have f4 := optX_one X[k].grant
      have Hlt := hide hlt
      clear at5 hcells hc1 hc2 hf hlt
      generalize X[k] = x at q0 q1 q2 q3 q4 HD1 HD2 HSH f3 f4
      clear hkl
      generalize dpO x.cond = d1 at HD1 HSH
      generalize dpO x.grant = d2 at HD2 HSH
      generalize optX x.cond = v3 at q3 HD1 f3
      generalize optX x.grant = v4 at q4 HD2 f4
      have B2 := B1.alloc B1.size (.cells #[.int .i64 x.at', .int .i64 x.kind, .string x.name, v3, v4] 111)
      have R2 := Row.new wr #[.int .i64 x.at', .int .i64 x.kind, .string x.name, v3, v4] 111
      go_wp2_with fail
      rw [run_store _ _ _ _ _ f3]
      go_simp
      rw [run_store _ _ _ _ _ f4]
      go_simp
      go_wp2_with fail
      generalize hWW : wr.alloc (.cells #[.int .i64 x.at', .int .i64 x.kind, .string x.name, v3, v4] 111) = W at *
      have z3 : W.cell? ⟨wr.heap.size, 3, none⟩ = some v3 := R2.cell 3
      have z4 : W.cell? ⟨wr.heap.size, 4, none⟩ = some v4 := R2.cell 4
      have R2d := R2.after (Below.refl _ _).drew (Nat.le_refl _)
      have y3 : W.drew.cell? ⟨wr.heap.size, 3, none⟩ = some v3 := R2d.cell 3
      have y4 : W.drew.cell? ⟨wr.heap.size, 4, none⟩ = some v4 := R2d.cell 4
      have B2d := B2.drew
      clear hWW q0 q1 q2 q3 q4 f3 f4
      have HG : Hid (mx d1 d2 = if d1 < d2 then d2 else d1) := hide rfl
      go_region_held3 (fun w' => w'.cell? ⟨wr.heap.size, 3, none⟩ = some v3 ∧ w'.cell? ⟨wr.heap.size, 4, none⟩ = some v4) (first | assumption | go_keep) (first
        | (go_at_call 64; refine (unhide HD2 w3).mono ?_; rintro e w4 ⟨rfl, hb4⟩; have R4 := R3.after hb4 (Nat.le_refl _); have B4 := B3.trans (hb4.mono B3.size); have y7 : w4.cell? ⟨wr.heap.size, 3, none⟩ = some v3 := R4.cell 3; have y8 : w4.cell? ⟨wr.heap.size, 4, none⟩ = some v4 := R4.cell 4)
        | (go_at_call 64; refine (unhide HD1 W.drew).mono ?_; rintro e w3 ⟨rfl, hb3⟩; have R3 := R2d.after hb3 (Nat.le_refl _); have B3 := B2d.trans (hb3.mono B2d.size); have y5 : w3.cell? ⟨wr.heap.size, 3, none⟩ = some v3 := R3.cell 3; have y6 : w3.cell? ⟨wr.heap.size, 4, none⟩ = some v4 := R3.cell 4)
        | fail)
      cases hbig : decide (64 < max d1 d2)
      · have HN := hide (show shX X = shX (X.drop (k + 1)) by rw [unhide HX, unhide HSH, if_neg (by rw [mx_max]; exact of_decide_eq_false hbig)])
        go_wp2_with fail
        go_roundw
        case rel => exact ⟨k + 1, unhide Hlt, by go_num, unhide HN, B4⟩
        case measure => have := unhide Hlt; simp [intOf]; omega
      · have HN := hide (show shX X = some x.at' by rw [unhide HX, unhide HSH, if_pos (by rw [mx_max]; exact of_decide_eq_true hbig)])
        have S4 := (unhide HS).below B4 (Nat.le_refl _)
        have g6 := S4.g6
        have r0 : w4.cell? ⟨wr.heap.size, 0, none⟩ = some (.int .i64 x.at') := R4.cell 0
        have S4d := (S4.below (Below.refl w4.heap.size w4).drew (Nat.le_refl _)).g6
        go_wp2_with fail
        refine (faultAt_any _ _ _ _).mono ?_
        rintro e w5 ⟨rfl, R5, hb5⟩
        dsimp only
        go_wp2_with fail
        go_ret
        rw [unhide HN]
        exact ⟨⟨_, rfl, R5⟩, B4.trans (hb5.mono B4.size)⟩
    · have e : k = m := by omega
      subst e
      have HN := hide (show shX X = none by rw [unhide HX, ← unhide HM, List.drop_length]; rfl)
      go_wp2_with fail
      go_ret
      rw [unhide HN]
      exact ⟨rfl, B1⟩

/-- the places of the nodes that are too wide -/
def wlX : List Nd → List Int → List Int
  | n :: N, i :: P => if 64 < n.names.length then i :: wlX N P else wlX N P
  | _, _ => []

theorem wlX_drop {N : List Nd} {P : List Int} {k : Nat} (hk : k < N.length) (hp : k < P.length) : (wlX (N.drop k) (P.drop k)).head? = if 64 < N[k].names.length then some P[k] else (wlX (N.drop (k + 1)) (P.drop (k + 1))).head? := by
  rw [List.drop_eq_getElem_cons hk, List.drop_eq_getElem_cons hp, wlX]
  split <;> rfl

set_option maxRecDepth 100000 in
set_option maxHeartbeats 3200000 in
theorem narrow_any (N : List Nd) (P : List Int) (nd pl : Value) (nv kv : List Value) (w : World) (lo : Nat) (ho : OwnN w lo nd N nv kv) (hpl : w.ownsRow lo 3 1 pl P.length (intsV P)) (hl : N.length = P.length) (hn : N.length ≤ 65535) (S : S6 w a1 a2 a3 a4 a5 a6) :
    Calls Tryz.prog 37 #[nd, pl] w (ErN a4 a5 a6 5 (wlX N P).head? w) := by
  have HO := hide ho
  have HP := hide hpl
  have HS := hide S
  have HX := hide (show (wlX N P).head? = (wlX (N.drop 0) (P.drop 0)).head? by rw [List.drop_zero, List.drop_zero])
  obtain ⟨xn, cn, hfn, hcn⟩ := owns_form2 ho.own
  obtain ⟨xp, cp, hfp, hcp⟩ := owns_form2 hpl
  subst hfn
  subst hfp
  have HCN := hide hcn
  have HCP := hide hcp
  clear ho hpl S hcn hcp
  generalize hm : N.length = m at *
  have HM := hide (And.intro hm hl)
  rw [← hl]
  clear hm hl
  go_enter Tryz.func37, Tryz.ntmps37
  go_wp2_with fail
  go_loopw [9] (fun i wr => ∃ k : Nat, k ≤ m ∧ i = .int .i64 k ∧ (wlX N P).head? = (wlX (N.drop k) (P.drop k)).head? ∧ Below w.heap.size w wr) (fun i _ => m - (intOf i).toNat)
  case atStart => exact ⟨0, Nat.zero_le _, rfl, unhide HX, Below.refl _ _⟩
  case round =>
    clear HX
    obtain ⟨k, hk, rfl, hx, B1⟩ := hrel
    have HX := hide hx
    clear hx
    by_cases hlt : k < m
    · have ilt : (k : Int) < (m : Int) := by omega
      have hkN : k < N.length := by rw [(unhide HM).1]; exact hlt
      have hkP : k < P.length := by rw [← (unhide HM).2]; exact hlt
      obtain ⟨gn, hgn, hlon, hcn⟩ := unhide HCN (by omega)
      obtain ⟨gp, hgp, hlop, hcp⟩ := unhide HCP (by rw [← (unhide HM).2]; omega)
      subst hgn
      subst hgp
      have gnlt : gn < w.heap.size := ((unhide HO).own.lt gn rfl).2
      have gplt : gp < w.heap.size := ((unhide HP).lt gp rfl).2
      have hkv : k < nv.length := by rw [(unhide HO).len]; exact hkN
      have hkk : k < kv.length := by rw [(unhide HO).lenk]; exact hkN
      have at5 : ∀ r, r < 5 → ∀ u, (nd5 N[k] nv[k] kv[k])[r]? = some u → wr.cell? ⟨gn, k * 5 + r, none⟩ = some u := fun r hr u hu => by
        rw [B1.cell (p := ⟨gn, k * 5 + r, none⟩) gnlt]
        refine hcn _ _ ?_
        rw [ndC_at N nv kv k hkN hkv hkk r hr]
        exact hu
      have q0 := at5 0 (by decide) _ rfl
      have q1 := at5 1 (by decide) _ rfl
      have q2 := at5 2 (by decide) _ rfl
      have q3 := at5 3 (by decide) _ rfl
      have q4 := at5 4 (by decide) _ rfl
      simp only [Nat.add_zero] at q0
      obtain ⟨xs, cs, hns, hj1⟩ := owns_form2 ((unhide HO).names k hkN hkv)
      obtain ⟨xk, ck, hks, hj2⟩ := owns_form2 ((unhide HO).kids k hkN hkk)
      rw [hns] at q3
      rw [hks] at q4
      have p0 : ∀ w', Below w.heap.size w w' → w'.cell? ⟨gp, k, none⟩ = some (.int .i64 P[k]) := fun w' hb => by
        rw [hb.cell (p := ⟨gp, k, none⟩) gplt]
        refine hcp _ _ ?_
        rw [intsV, List.getElem?_map, List.getElem?_eq_getElem hkP]; rfl
      have HP0 := hide p0
      have HSH := hide (wlX_drop hkN hkP)
      have Hlt := hide hlt
      have ilp : (k : Int) < (P.length : Int) := by omega
      have nl : N[k].names.length ≤ 9223372036854775807 := by
        have := (unhide HO).names k hkN hkv
        rcases this.2 with ⟨_, h0⟩ | ⟨g0, cap0, cur0, _, _, _, h4, h5, _⟩
        · omega
        · unfold maxLen at h5; omega
      clear at5 hcn hcp hns hks hlt p0 hj1 hj2
      generalize P[k] = pk at HP0 HSH
      generalize N[k] = x at q0 q1 q2 q3 q4 HSH nl
      clear hkN hkP hkv hkk
      have B2 := B1.alloc B1.size (.cells #[.int .i64 x.op, .int .i64 x.num, .string x.text, .slice xs x.names.length cs, .slice xk x.kids.length ck] 91)
      have R2 := Row.new wr #[.int .i64 x.op, .int .i64 x.num, .string x.text, .slice xs x.names.length cs, .slice xk x.kids.length ck] 91
      by_cases hbig : 64 < x.names.length
      · have ib : (64 : Int) < (x.names.length : Int) := by omega
        have HN := hide (show (wlX N P).head? = some pk by rw [unhide HX, unhide HSH, if_pos hbig])
        have S2 := (unhide HS).below B2 (Nat.le_refl _)
        have g5 := S2.g5
        have c5 := unhide HP0 _ B2
        have c6 := unhide HP0 _ B2.drew
        have g6 := (S2.below (Below.refl _ _).drew (Nat.le_refl _)).g5
        clear hbig
        go_wp2_with fail
        generalize hWW : wr.alloc (.cells #[.int .i64 x.op, .int .i64 x.num, .string x.text, .slice xs x.names.length cs, .slice xk x.kids.length ck] 91) = W at *
        clear hWW q0 q1 q2 q3 q4 R2
        go_region_held3 (fun w' => w'.cell? ⟨gp, k, none⟩ = some (.int .i64 pk) ∧ w'.cell? ⟨1, 0, none⟩ = some (.iface 207 (.pointer (some a5)))) (first | assumption | go_keep) (first
          | (go_at_call 59; refine (faultAt_any _ _ _ W.drew).mono ?_; rintro e w5 ⟨rfl, R5, hb5⟩; have c7 := unhide HP0 _ (B2.drew.trans (hb5.mono B2.drew.size)); have g7 := ((S2.below (Below.refl _ _).drew (Nat.le_refl _)).below hb5 (Nat.le_refl _)).g5)
          | fail)
        all_goals
          go_wp2_with fail
          go_ret
          rw [unhide HN]
          exact ⟨⟨_, rfl, R5⟩, B2.drew.trans (hb5.mono B2.drew.size)⟩
      · have ib : ¬ ((64 : Int) < (x.names.length : Int)) := by omega
        have HN := hide (show (wlX N P).head? = (wlX (N.drop (k + 1)) (P.drop (k + 1))).head? by rw [unhide HX, unhide HSH, if_neg hbig])
        clear hbig
        go_wp2_with fail
        go_roundw
        case rel => exact ⟨k + 1, unhide Hlt, by go_num, unhide HN, B2⟩
        case measure => have := unhide Hlt; simp [intOf]; omega
    · have e : k = m := by omega
      subst e
      have HN := hide (show (wlX N P).head? = none by rw [unhide HX, ← (unhide HM).1, List.drop_length]; rfl)
      go_wp2_with fail
      go_ret
      rw [unhide HN]
      exact ⟨rfl, B1⟩

end Go.Proofs.YtcehablmloleaaaGreatDoor

namespace Go.Proofs.YtcehablmloleaaaGreatDoor
open Go.RowKit
set_option linter.unusedVariables false

theorem Er.same : ∀ {e : Ex} {p : Pt}, Er e p → e.cnt = p.ex.cnt ∧ (∀ b, flE e b = flE p.ex b) ∧ plE e = plE p.ex ∧ dpE e = dpE p.ex
  | .int i n, .int j m, h => by obtain ⟨rfl, rfl⟩ := h; exact ⟨rfl, fun _ => rfl, rfl, rfl⟩
  | .text i s, .text j t, h => by obtain ⟨rfl, rfl⟩ := h; exact ⟨rfl, fun _ => rfl, rfl, rfl⟩
  | .bool i b, .bool j d, h => by obtain ⟨rfl, rfl⟩ := h; exact ⟨rfl, fun _ => rfl, rfl, rfl⟩
  | .set i a n c K, .set j ss, h => by obtain ⟨rfl, hK⟩ := h; rw [srt_is hK]; exact ⟨rfl, fun _ => rfl, rfl, rfl⟩
  | .name i s, .name j t, h => by obtain ⟨rfl, rfl⟩ := h; exact ⟨rfl, fun _ => rfl, rfl, rfl⟩
  | .un i op k, .un j o q, h => by
    obtain ⟨rfl, rfl, hk⟩ := h
    obtain ⟨a1, a2, a3, a4⟩ := Er.same hk
    exact ⟨by simp only [Pt.ex, Ex.cnt, a1], fun b => by simp only [Pt.ex, flE, a1, a2], by simp only [Pt.ex, plE, a3], by simp only [Pt.ex, dpE, a4]⟩
  | .bin i op l r, .bin j o p q, h => by
    obtain ⟨rfl, rfl, hl, hr⟩ := h
    obtain ⟨a1, a2, a3, a4⟩ := Er.same hl
    obtain ⟨b1, b2, b3, b4⟩ := Er.same hr
    exact ⟨by simp only [Pt.ex, Ex.cnt, a1, b1], fun b => by simp only [Pt.ex, flE, a1, a2, b1, b2], by simp only [Pt.ex, plE, a3, b3], by simp only [Pt.ex, dpE, a4, b4]⟩
  | .ite i c t e, .ite j x y z, h => by
    obtain ⟨rfl, hc, ht, he⟩ := h
    obtain ⟨a1, a2, a3, a4⟩ := Er.same hc
    obtain ⟨b1, b2, b3, b4⟩ := Er.same ht
    obtain ⟨c1, c2, c3, c4⟩ := Er.same he
    exact ⟨by simp only [Pt.ex, Ex.cnt, a1, b1, c1], fun b => by simp only [Pt.ex, flE, a1, a2, b1, b2, c1, c2], by simp only [Pt.ex, plE, a3, b3, c3], by simp only [Pt.ex, dpE, a4, b4, c4]⟩
  | .attr .., _, h => absurd h (by simp [Er])
  | .lett .., _, h => absurd h (by simp [Er])
  | .int .., .text .., h | .int .., .bool .., h | .int .., .set .., h | .int .., .name .., h | .int .., .un .., h | .int .., .bin .., h | .int .., .ite .., h => absurd h (by simp [Er])
  | .text .., .int .., h | .text .., .bool .., h | .text .., .set .., h | .text .., .name .., h | .text .., .un .., h | .text .., .bin .., h | .text .., .ite .., h => absurd h (by simp [Er])
  | .bool .., .int .., h | .bool .., .text .., h | .bool .., .set .., h | .bool .., .name .., h | .bool .., .un .., h | .bool .., .bin .., h | .bool .., .ite .., h => absurd h (by simp [Er])
  | .set .., .int .., h | .set .., .text .., h | .set .., .bool .., h | .set .., .name .., h | .set .., .un .., h | .set .., .bin .., h | .set .., .ite .., h => absurd h (by simp [Er])
  | .name .., .int .., h | .name .., .text .., h | .name .., .bool .., h | .name .., .set .., h | .name .., .un .., h | .name .., .bin .., h | .name .., .ite .., h => absurd h (by simp [Er])
  | .un .., .int .., h | .un .., .text .., h | .un .., .bool .., h | .un .., .set .., h | .un .., .name .., h | .un .., .bin .., h | .un .., .ite .., h => absurd h (by simp [Er])
  | .bin .., .int .., h | .bin .., .text .., h | .bin .., .bool .., h | .bin .., .set .., h | .bin .., .name .., h | .bin .., .un .., h | .bin .., .ite .., h => absurd h (by simp [Er])
  | .ite .., .int .., h | .ite .., .text .., h | .ite .., .bool .., h | .ite .., .set .., h | .ite .., .name .., h | .ite .., .un .., h | .ite .., .bin .., h => absurd h (by simp [Er])

theorem ErO.same {o : Option Ex} {p : Option Pt} (h : ErO o p) : cntO o = cntO (p.map Pt.ex) ∧ (∀ b, flO o b = flO (p.map Pt.ex) b) ∧ plO o = plO (p.map Pt.ex) ∧ dpO o = dpO (p.map Pt.ex) ∧ (∀ b, ixO o b = ixO (p.map Pt.ex) b) := by
  match o, p, h with
  | none, none, _ => exact ⟨rfl, fun _ => rfl, rfl, rfl, fun _ => rfl⟩
  | some e, some p, h =>
    obtain ⟨a1, a2, a3, a4⟩ := Er.same (show Er e p from h)
    exact ⟨a1, a2, a3, a4, fun b => by simp only [Option.map_some, ixO, a1]⟩

theorem SxsP.same {lo : Nat} {w : World} : ∀ (X : List Sx) (S : List Ps), SxsP lo w X S → (∀ b, numN b X = numN b (S.map Ps.sx)) ∧ (∀ b, numT b X = numT b (S.map Ps.sx)) ∧ numP X = numP (S.map Ps.sx) ∧ cntX X = cntX (S.map Ps.sx) ∧ shX X = shX (S.map Ps.sx)
  | [], [], _ => ⟨fun _ => rfl, fun _ => rfl, rfl, rfl, rfl⟩
  | x :: X, s :: S, h => by
    obtain ⟨⟨h1, h2, h3, h4, h5, _, _⟩, hr⟩ := h
    obtain ⟨i1, i2, i3, i4, i5⟩ := SxsP.same X S hr
    obtain ⟨a1, a2, a3, a4, a5⟩ := h4.same
    obtain ⟨b1, b2, b3, b4, b5⟩ := h5.same
    refine ⟨fun b => ?_, fun b => ?_, ?_, ?_, ?_⟩
    · simp only [List.map_cons, numN, Ps.sx, a1, a2, b1, b2, i1]
    · simp only [List.map_cons, numT, Ps.sx, a1, a5, b1, b5, i2, h2, h3]
    · simp only [List.map_cons, numP, Ps.sx, a3, b3, i3]
    · rw [List.map_cons, cntX_cons, cntX_cons, i4]; simp only [Ps.sx, a1, b1]
    · simp only [List.map_cons, shX, Ps.sx, a4, b4, i5, h1]
  | [], _ :: _, h => absurd h id
  | _ :: _, [], h => absurd h id

theorem wlX_app : ∀ (A B : List Nd) (P Q : List Int), A.length = P.length → wlX (A ++ B) (P ++ Q) = wlX A P ++ wlX B Q
  | [], B, [], Q, _ => rfl
  | [], _, _ :: _, _, h => by simp at h
  | _ :: _, _, [], _, h => by simp at h
  | a :: A, B, p :: P, Q, h => by
    have ih := wlX_app A B P Q (by simpa using h)
    rw [List.cons_append, List.cons_append, wlX, wlX, ih]
    split <;> rfl

theorem wlX_one (n : Nd) (i : Int) (h : n.names = []) : wlX [n] [i] = [] := by
  rw [wlX, h]; rfl

theorem Pt.wide : ∀ (p : Pt) (b : Nat), wlX (flE p.ex b) (plE p.ex) = wsP p.sets
  | .int .., b => rfl
  | .text .., b => rfl
  | .bool .., b => rfl
  | .set i ss, b => by
    show wlX [_] [_] = _
    rw [wlX]
    show (if 64 < (srt ss).length then _ else _) = wsP [(i, ss)]
    rw [wsP, List.filterMap_cons]
    dsimp only
    split <;> simp_all [wlX]
  | .name .., b => rfl
  | .un i op k, b => by
    have ih := Pt.wide k b
    simp only [Pt.ex, flE, plE, Pt.sets]
    rw [wlX_app _ _ _ _ (by rw [flE_len, plE_len]), ih, wlX_one _ _ rfl, List.append_nil]
  | .bin i op l r, b => by
    simp only [Pt.ex, flE, plE, Pt.sets]
    rw [wlX_app _ _ _ _ (by simp [flE_len, plE_len]), wlX_app _ _ _ _ (by rw [flE_len, plE_len]), Pt.wide l, Pt.wide r, wlX_one _ _ rfl, List.append_nil, wsP_app]
  | .ite i c t e, b => by
    simp only [Pt.ex, flE, plE, Pt.sets]
    rw [wlX_app _ _ _ _ (by simp [flE_len, plE_len]), wlX_app _ _ _ _ (by simp [flE_len, plE_len]), wlX_app _ _ _ _ (by rw [flE_len, plE_len]), Pt.wide c, Pt.wide t, Pt.wide e, wlX_one _ _ rfl, List.append_nil, wsP_app, wsP_app, List.append_assoc]

theorem wide_opt (o : Option Pt) (b : Nat) : wlX (flO (o.map Pt.ex) b) (plO (o.map Pt.ex)) = wsP (optS o) := by
  cases o with
  | none => rfl
  | some p => exact p.wide b

theorem wide_all : ∀ (S : List Ps) (b : Nat), wlX (numN b (S.map Ps.sx)) (numP (S.map Ps.sx)) = wsP (S.flatMap Ps.sets)
  | [], b => rfl
  | s :: S, b => by
    simp only [List.map_cons, numN, numP, List.flatMap_cons, Ps.sets]
    rw [wlX_app _ _ _ _ (by simp [flO_len, plO_len]), wlX_app _ _ _ _ (by rw [flO_len, plO_len]), wide_all S]
    simp only [Ps.sx, wide_opt, wsP_app, List.append_assoc]

theorem sok_of : ∀ {e : Ex} {p : Pt} {lo : Nat} {w : World}, Er e p → e.own lo w → (∀ q ∈ p.sets, okNs q.2) → e.sok w
  | .int .., .int .., _, _, _, _, _ => trivial
  | .text .., .text .., _, _, _, _, _ => trivial
  | .bool .., .bool .., _, _, _, _, _ => trivial
  | .name .., .name .., _, _, _, _, _ => trivial
  | .set i a n c K, .set j ss, lo, w, h, ho, hs => by
    obtain ⟨_, hK⟩ := h
    have ho' : w.ownsRow lo 9 1 (.slice a n c) n (K.map Value.string) := ho
    have hn : K.length = n := by have := ho'.1; simpa using this
    have h1 := hs (j, ss) (by simp [Pt.sets])
    have h2 : ∀ x ∈ K, x.size ≤ maxLen := fun x hx => h1.1 x ((hK.mem x).1 hx)
    have h3 := hK.len
    have h4 := h1.2
    exact ⟨Strs.of_owns ho' (fun k hk => by rw [nth_eq K k (by omega)]; exact h2 _ (List.getElem_mem _)), by dsimp only at h4; omega⟩
  | .un _ _ k, .un _ _ q, lo, w, h, ho, hs => sok_of (e := k) h.2.2 ho hs
  | .bin _ _ l r, .bin _ _ p q, lo, w, h, ho, hs => ⟨sok_of h.2.2.1 ho.1 (fun z hz => hs z (List.mem_append_left _ hz)), sok_of h.2.2.2 ho.2 (fun z hz => hs z (List.mem_append_right _ hz))⟩
  | .ite _ c t e, .ite _ x y z, lo, w, h, ho, hs => ⟨sok_of h.2.1 ho.1 (fun z hz => hs z (List.mem_append_left _ hz)), sok_of h.2.2.1 ho.2.1 (fun z hz => hs z (List.mem_append_right _ (List.mem_append_left _ hz))), sok_of h.2.2.2 ho.2.2 (fun z hz => hs z (List.mem_append_right _ (List.mem_append_right _ hz)))⟩
  | .attr .., _, _, _, h, _, _ => absurd h (by simp [Er])
  | .lett .., _, _, _, h, _, _ => absurd h (by simp [Er])
  | .int .., .text .., _, _, h, _, _ | .int .., .bool .., _, _, h, _, _ | .int .., .set .., _, _, h, _, _ | .int .., .name .., _, _, h, _, _ | .int .., .un .., _, _, h, _, _ | .int .., .bin .., _, _, h, _, _ | .int .., .ite .., _, _, h, _, _ => absurd h (by simp [Er])
  | .text .., .int .., _, _, h, _, _ | .text .., .bool .., _, _, h, _, _ | .text .., .set .., _, _, h, _, _ | .text .., .name .., _, _, h, _, _ | .text .., .un .., _, _, h, _, _ | .text .., .bin .., _, _, h, _, _ | .text .., .ite .., _, _, h, _, _ => absurd h (by simp [Er])
  | .bool .., .int .., _, _, h, _, _ | .bool .., .text .., _, _, h, _, _ | .bool .., .set .., _, _, h, _, _ | .bool .., .name .., _, _, h, _, _ | .bool .., .un .., _, _, h, _, _ | .bool .., .bin .., _, _, h, _, _ | .bool .., .ite .., _, _, h, _, _ => absurd h (by simp [Er])
  | .set .., .int .., _, _, h, _, _ | .set .., .text .., _, _, h, _, _ | .set .., .bool .., _, _, h, _, _ | .set .., .name .., _, _, h, _, _ | .set .., .un .., _, _, h, _, _ | .set .., .bin .., _, _, h, _, _ | .set .., .ite .., _, _, h, _, _ => absurd h (by simp [Er])
  | .name .., .int .., _, _, h, _, _ | .name .., .text .., _, _, h, _, _ | .name .., .bool .., _, _, h, _, _ | .name .., .set .., _, _, h, _, _ | .name .., .un .., _, _, h, _, _ | .name .., .bin .., _, _, h, _, _ | .name .., .ite .., _, _, h, _, _ => absurd h (by simp [Er])
  | .un .., .int .., _, _, h, _, _ | .un .., .text .., _, _, h, _, _ | .un .., .bool .., _, _, h, _, _ | .un .., .set .., _, _, h, _, _ | .un .., .name .., _, _, h, _, _ | .un .., .bin .., _, _, h, _, _ | .un .., .ite .., _, _, h, _, _ => absurd h (by simp [Er])
  | .bin .., .int .., _, _, h, _, _ | .bin .., .text .., _, _, h, _, _ | .bin .., .bool .., _, _, h, _, _ | .bin .., .set .., _, _, h, _, _ | .bin .., .name .., _, _, h, _, _ | .bin .., .un .., _, _, h, _, _ | .bin .., .ite .., _, _, h, _, _ => absurd h (by simp [Er])
  | .ite .., .int .., _, _, h, _, _ | .ite .., .text .., _, _, h, _, _ | .ite .., .bool .., _, _, h, _, _ | .ite .., .set .., _, _, h, _, _ | .ite .., .name .., _, _, h, _, _ | .ite .., .un .., _, _, h, _, _ | .ite .., .bin .., _, _, h, _, _ => absurd h (by simp [Er])

theorem sokO_of {o : Option Ex} {p : Option Pt} {lo : Nat} {w : World} (h : ErO o p) (ho : ownO lo w o) (hs : ∀ q ∈ optS p, okNs q.2) : sokO w o := by
  match o, p, h with
  | none, none, _ => trivial
  | some e, some p, h => exact sok_of h ho hs

theorem SxsP.sok {lo : Nat} {w : World} : ∀ (X : List Sx) (S : List Ps), SxsP lo w X S → (∀ q ∈ S.flatMap Ps.sets, okNs q.2) → ∀ x ∈ X, sokO w x.cond ∧ sokO w x.grant
  | [], [], _, _, x, hx => by cases hx
  | y :: X, s :: S, h, hs, x, hx => by
    obtain ⟨⟨h1, h2, h3, h4, h5, o1, o2⟩, hr⟩ := h
    rw [List.flatMap_cons] at hs
    rcases List.mem_cons.1 hx with rfl | hx
    · exact ⟨sokO_of h4 o1 (fun q hq => hs q (List.mem_append_left _ (List.mem_append_left _ hq))), sokO_of h5 o2 (fun q hq => hs q (List.mem_append_left _ (List.mem_append_right _ hq)))⟩
    · exact SxsP.sok X S hr (fun q hq => hs q (List.mem_append_right _ hq)) x hx
  | [], _ :: _, h, _, _, _ => absurd h id
  | _ :: _, [], h, _, _, _ => absurd h id

end Go.Proofs.YtcehablmloleaaaGreatDoor

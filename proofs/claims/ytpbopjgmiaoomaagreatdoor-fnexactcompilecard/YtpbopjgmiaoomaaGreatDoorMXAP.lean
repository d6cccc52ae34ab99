/-
  ZF, VPM0, ZG, ZH, JM, QJ1. Own work.
-/
import Derived.Test.YtpbopjgmiaoomaaGreatDoorMXAO
import Derived.Test.YtpbopjgmiaoomaaGreatDoorMXAN
import Derived.Test.YtpbopjgmiaoomaaGreatDoorMXAL
import Derived.Test.YtpbopjgmiaoomaaGreatDoorQK
import Derived.Test.YtpbopjgmiaoomaaGreatDoorJJ
import Derived.Test.YtpbopjgmiaoomaaGreatDoorMXAM
namespace Go.Proofs.YtpbopjgmiaoomaaGreatDoor
open Go.RowKit
set_option linter.unusedVariables false

set_option maxRecDepth 100000 in
set_option maxHeartbeats 1600000 in
theorem l3node_attr (a : Option Addr) (n c : Nat) (N : List Nd) (lb : Nat) (w : World) (hN : Nds w a n c N) (i : Nat) (x : Nd) (hx : N[i]? = some x) (hop : x.op = 6) :
    Calls Tryz.prog 96 #[.slice a n c, .int .i64 i, .pointer (some ⟨lb, 0, none⟩)] w (NdAns (some (attrTy x.num)) w) := by
  have hnN := hN.small
  have hlen := hN.len
  have hi : i < N.length := (List.getElem?_eq_some_iff.1 hx).1
  have hxe : N[i] = x := (List.getElem?_eq_some_iff.1 hx).2
  have iin : (i : Int) < (n : Int) := by omega
  obtain ⟨b, off, rfl, hbl, an, nn, cn, ak, nk, ck, c0, c1, c2, c3, c4, hNm, hKd⟩ := hN.cells i hi
  rw [hxe] at c0 c1 c2 hKd
  rw [hop] at c0
  clear hNm hKd
  clear hlen hx hxe hi hop hN
  have B0 := (Below.refl w.heap.size w).alloc (Nat.le_refl _) (.cells #[.int .i64 6, .int .i64 x.num, .string x.text, .slice an nn cn, .slice ak nk ck] 103)
  generalize x.num = nu at *
  generalize x.text = tx at *
  go_enter Tryz.func96, Tryz.ntmps96
  go_wp2_with fail
  refine (l3attrType_any nu _).mono ?_
  rintro r w2 ⟨rfl, rfl⟩
  dsimp only
  go_wp2_with fail
  exact bodyPost_ret (v := .tuple #[.int .i64 (attrTy nu), .int .i64 0]) (by simp [results, Tryz.results96, go_sem]) rfl ⟨⟨_, _, rfl, .inl ⟨rfl, rfl⟩⟩, B0⟩

set_option maxRecDepth 100000 in
set_option maxHeartbeats 1600000 in
theorem l3node_lett (a : Option Addr) (n c : Nat) (N : List Nd) (lb : Nat) (w : World) (hN : Nds w a n c N) (i : Nat) (x : Nd) (hx : N[i]? = some x) (hop : x.op = 7) (h0 : 0 ≤ x.num) (la : Option Addr) (ln lc : Nat) (ts : List Int)
    (hlc : w.cell? ⟨lb, 1, none⟩ = some (.slice la ln lc)) (hlb : lb < w.heap.size) (hts : Ints w la ln lc ts) :
    Calls Tryz.prog 96 #[.slice a n c, .int .i64 i, .pointer (some ⟨lb, 0, none⟩)] w (NdAns ts[x.num.toNat]? w) := by
  have hnN := hN.small
  have hlen := hN.len
  have hi : i < N.length := (List.getElem?_eq_some_iff.1 hx).1
  have hxe : N[i] = x := (List.getElem?_eq_some_iff.1 hx).2
  have iin : (i : Int) < (n : Int) := by omega
  obtain ⟨b, off, rfl, hbl, an, nn, cn, ak, nk, ck, c0, c1, c2, c3, c4, hNm, hKd⟩ := hN.cells i hi
  rw [hxe] at c0 c1 c2 hKd
  rw [hop] at c0
  clear hNm hKd
  clear hlen hx hxe hi hop hN
  have hsl := hts.small
  have htl := hts.len
  generalize x.text = tx at *
  obtain ⟨nu, hnu⟩ : ∃ nu : Nat, x.num = nu := ⟨x.num.toNat, by omega⟩
  rw [hnu] at c1 ⊢
  rw [Int.toNat_natCast]
  have B0 := (Below.refl w.heap.size w).alloc (Nat.le_refl _) (.cells #[.int .i64 7, .int .i64 nu, .string tx, .slice an nn cn, .slice ak nk ck] 103)
  have q1 := (B0.cell (p := ⟨lb, 1, none⟩) hlb).trans hlc
  have T1 := hts.below B0 (Nat.le_refl _)
  clear hnu h0
  by_cases hge : ln ≤ nu
  · have ige : (ln : Int) ≤ (nu : Int) := by omega
    have HX := hide (show ts[nu]? = none from List.getElem?_eq_none (by omega))
    clear hge htl
    go_enter Tryz.func96, Tryz.ntmps96
    go_wp2_with fail
    go_region
    all_goals
      go_wp2_with fail
      exact bodyPost_ret (v := .tuple #[.int .i64 0, .int .i64 7]) (by simp [results, Tryz.results96, go_sem]) rfl ⟨⟨_, _, rfl, .inr ⟨by decide, unhide HX⟩⟩, B0.drew⟩
  · have ige : ¬ ((ln : Int) ≤ (nu : Int)) := by omega
    have ilt : (nu : Int) < (ln : Int) := by omega
    have hlt : nu < ts.length := by omega
    obtain ⟨bt, ot, rfl, hbt, ct⟩ := T1.cells nu hlt
    have HX := hide (show ts[nu]? = some ts[nu] from List.getElem?_eq_getElem hlt)
    generalize ts[nu] = t at ct HX
    clear hge htl hlt
    go_enter Tryz.func96, Tryz.ntmps96
    go_wp2_with fail
    go_region
    all_goals
      go_wp2_with fail
      go_region
      all_goals
        go_wp2_with fail
        exact bodyPost_ret (v := .tuple #[.int .i64 t, .int .i64 0]) (by simp [results, Tryz.results96, go_sem]) rfl ⟨⟨_, _, rfl, .inl ⟨rfl, unhide HX⟩⟩, B0.drew.drew⟩

theorem rowL_len {x : Nd} (h : opOK x.op) (hk : (x.kids.length : Int) = kidN x.op) : (rowL x.op).1.length ≤ x.kids.length := by
  unfold opOK at h
  generalize x.op = op at *
  generalize x.kids.length = m at *
  by_cases h1 : 1 ≤ op ∧ op ≤ 7
  · have : op = 1 ∨ op = 2 ∨ op = 3 ∨ op = 4 := by omega
    rcases this with rfl | rfl | rfl | rfl <;> simp [rowL]
  by_cases h2 : 8 ≤ op ∧ op ≤ 10
  · rw [kidN, if_neg h1, if_pos h2] at hk
    have : op = 8 ∨ op = 9 ∨ op = 10 := by omega
    rcases this with rfl | rfl | rfl <;> simp [rowL] <;> omega
  by_cases h3 : 11 ≤ op ∧ op ≤ 26
  · rw [kidN, if_neg h1, if_neg h2, if_pos h3] at hk
    have : op = 11 ∨ op = 12 ∨ op = 13 ∨ op = 14 ∨ op = 15 ∨ op = 16 ∨ op = 17 ∨ op = 18 ∨ op = 19 ∨ op = 20 ∨ op = 21 ∨ op = 22 ∨ op = 23 ∨ op = 24 ∨ op = 25 ∨ op = 26 := by omega
    rcases this with rfl | rfl | rfl | rfl | rfl | rfl | rfl | rfl | rfl | rfl | rfl | rfl | rfl | rfl | rfl | rfl <;> simp [rowL] <;> omega
  · have h4 : op = 27 := by omega
    rw [kidN, if_neg h1, if_neg h2, if_neg h3, if_pos h4] at hk
    subst h4
    simp [rowL]
    omega

theorem tyN_un {op : Int} (h : 8 ≤ op ∧ op ≤ 10) (ts : List Int) (i : Int) (k : Ex) : tyN op [tyE ts k] = tyE ts (.un i op k) := by
  rw [tyE]
  cases tyE ts k with
  | none => rfl
  | some a => show _ = nz (tyOp op [a]); rw [← typeL_un op a h]; rfl

theorem tyN_bin {op : Int} (h : 11 ≤ op ∧ op ≤ 26) {ts : List Int} (hin : ∀ t ∈ ts, 1 ≤ t ∧ t ≤ 4) (i : Int) (k l : Ex) : tyN op [tyE ts k, tyE ts l] = tyE ts (.bin i op k l) := by
  rw [tyE]
  have ha := tyE_in hin k
  cases hk : tyE ts k with
  | none => rfl
  | some a =>
    have := ha a hk
    cases tyE ts l with
    | none => rfl
    | some b => show _ = nz (tyOp op [a, b]); rw [← typeL_bin op a b h (by omega)]; rfl

theorem tyN_ite {ts : List Int} (hin : ∀ t ∈ ts, 1 ≤ t ∧ t ≤ 4) (i : Int) (k l m : Ex) : tyN 27 [tyE ts k, tyE ts l, tyE ts m] = tyE ts (.ite i k l m) := by
  rw [tyE]
  have hb := tyE_in hin l
  cases hk : tyE ts k with
  | none => rfl
  | some a =>
    cases hl : tyE ts l with
    | none => rfl
    | some b =>
      have := hb b hl
      cases tyE ts m with
      | none => rfl
      | some c => show _ = nz (tyOp 27 [a, b, c]); rw [← typeL_ite a b c (by omega)]; rfl

/-- the type of any node of a typed policy -/
theorem l3node_any (a : Option Addr) (n c : Nat) (N : List Nd) (hU : ∀ x ∈ N, fieldsU x = true) (lb : Nat) (la : Option Addr) (ln lc : Nat) (ts : List Int) (hin : ∀ t ∈ ts, 1 ≤ t ∧ t ≤ 4) {i : Nat} {e : Ex} (t : IsT N i e) :
    ∀ w, Nds w a n c N → w.cell? ⟨lb, 1, none⟩ = some (.slice la ln lc) → lb < w.heap.size → Ints w la ln lc ts →
    Calls Tryz.prog 96 #[.slice a n c, .int .i64 i, .pointer (some ⟨lb, 0, none⟩)] w (NdAns (tyE ts e) w) := by
  have U : ∀ {i : Nat} {x : Nd}, N[i]? = some x → (x.kids.length : Int) = kidN x.op ∧ x.op ≠ 5 ∧ (x.op = 7 → 0 ≤ x.num) := fun {i x} hx => by
    have h := hU _ (List.mem_of_getElem? hx)
    have h2 := ((fieldsU_iff x).1 h).2
    rw [fieldsU, Bool.and_eq_true, decide_eq_true_eq] at h
    refine ⟨h.1, fun e => ?_, fun e => (h2 e).1⟩
    have := h.2
    simp [e] at this
  have leaf : ∀ {i : Nat} {x : Nd}, N[i]? = some x → opOK x.op → x.kids = [] → ∀ w, Nds w a n c N → Calls Tryz.prog 96 #[.slice a n c, .int .i64 i, .pointer (some ⟨lb, 0, none⟩)] w (NdAns (tyN x.op []) w) := fun {i x} hx ho hk w h1 =>
    l3node_kids a n c N lb w h1 i x hx ho (rowL_len ho (U hx).1) [] (by rw [hk]; rfl) (fun j h => absurd h (by rw [hk]; simp))
  have step : ∀ {i : Nat} {x : Nd} {os : List (Option Int)}, N[i]? = some x → opOK x.op → ∀ w, Nds w a n c N → w.cell? ⟨lb, 1, none⟩ = some (.slice la ln lc) → lb < w.heap.size → Ints w la ln lc ts → os.length = x.kids.length →
      (∀ (j : Nat) (y : Int) (o : Option Int), x.kids[j]? = some y → os[j]? = some o → ∀ W, Nds W a n c N → W.cell? ⟨lb, 1, none⟩ = some (.slice la ln lc) → lb < W.heap.size → Ints W la ln lc ts → Calls Tryz.prog 96 #[.slice a n c, .int .i64 y, .pointer (some ⟨lb, 0, none⟩)] W (NdAns o W)) →
      Calls Tryz.prog 96 #[.slice a n c, .int .i64 i, .pointer (some ⟨lb, 0, none⟩)] w (NdAns (tyN x.op os) w) := fun {i x os} hx ho w h1 h2 h3 h4 hl V =>
    l3node_kids a n c N lb w h1 i x hx ho (rowL_len ho (U hx).1) os hl (fun j h h' W hb => V j _ _ (List.getElem?_eq_getElem h) (List.getElem?_eq_getElem h') W (h1.below hb (Nat.le_refl _)) ((hb.cell (p := ⟨lb, 1, none⟩) h3).trans h2) (Nat.lt_of_lt_of_le h3 hb.size) (h4.below hb (Nat.le_refl _)))
  induction t with
  | int h ho hk => intro w h1 _ _ _; have := leaf h (by rw [ho]; unfold opOK; omega) hk w h1; rw [ho] at this; exact this
  | text h ho hk => intro w h1 _ _ _; have := leaf h (by rw [ho]; unfold opOK; omega) hk w h1; rw [ho] at this; exact this
  | bool h ho hk => intro w h1 _ _ _; have := leaf h (by rw [ho]; unfold opOK; omega) hk w h1; rw [ho] at this; exact this
  | set h ho hk _ _ _ => intro w h1 _ _ _; have := leaf h (by rw [ho]; unfold opOK; omega) hk w h1; rw [ho] at this; exact this
  | name h ho hk => exact absurd ho (U h).2.1
  | attr h ho hk => intro w h1 _ _ _; exact l3node_attr a n c N lb w h1 _ _ h ho
  | @lett i x h ho hk =>
    intro w h1 h2 h3 h4
    have h0 := (U h).2.2 ho
    have := l3node_lett a n c N lb w h1 _ _ h ho h0 la ln lc ts h2 h3 h4
    rw [tyE, if_pos h0]
    exact this
  | @un i k x e h ho hk hi t ih =>
    intro w h1 h2 h3 h4
    rw [← tyN_un ho]
    refine step h (by unfold opOK; omega) w h1 h2 h3 h4 (by rw [hk]; rfl) (fun j y o hy hoj W => ?_)
    rw [hk] at hy
    match j with
    | 0 => cases hy; cases hoj; exact ih W
    | j + 1 => simp at hy
  | @bin i k l x e f h ho hk hi t u ih1 ih2 =>
    intro w h1 h2 h3 h4
    rw [← tyN_bin ho hin]
    refine step h (by unfold opOK; omega) w h1 h2 h3 h4 (by rw [hk]; rfl) (fun j y o hy hoj W => ?_)
    rw [hk] at hy
    match j with
    | 0 => cases hy; cases hoj; exact ih1 W
    | 1 => cases hy; cases hoj; exact ih2 W
    | j + 2 => simp at hy
  | @ite i k l m x e f g h ho hk hi t u v ih1 ih2 ih3 =>
    intro w h1 h2 h3 h4
    rw [← tyN_ite hin, ← ho]
    refine step h (by unfold opOK; omega) w h1 h2 h3 h4 (by rw [hk]; rfl) (fun j y o hy hoj W => ?_)
    rw [hk] at hy
    match j with
    | 0 => cases hy; cases hoj; exact ih1 W
    | 1 => cases hy; cases hoj; exact ih2 W
    | 2 => cases hy; cases hoj; exact ih3 W
    | j + 3 => simp at hy

end Go.Proofs.YtpbopjgmiaoomaaGreatDoor

namespace Go.Proofs.YtpbopjgmiaoomaaGreatDoor
open Go.RowKit
set_option linter.unusedVariables false

def shapeI (N : List Nd) (L : List St) : Bool := match runT (N.map Nd.kids) N.length [] 0 with
  | none => false
  | some S => decide (topsI S = L.flatMap askedOf)

theorem row2 {w : World} {b : Nat} {v0 v1 : Value} {t : TypeId} (R : Row w b #[v0, v1] t) : w.cell? ⟨b, 0, none⟩ = some v0 ∧ w.cell? ⟨b, 1, none⟩ = some v1 := ⟨R.cell 0, R.cell 1⟩

theorem runT_len {K : List (List Int)} : ∀ {k : Nat} {S : List (Nat × Nat)}, runT K k [] 0 = some S → S.length ≤ k ∧ k ≤ K.length ∨ k = 0 ∧ S = []
  | 0, S, h => by right; rw [runT] at h; cases h; exact ⟨rfl, rfl⟩
  | k + 1, S, h => by
    left
    rw [runT_add K k 1 [] 0] at h
    cases h1 : runT K k [] 0 with
    | none => rw [h1] at h; cases h
    | some S1 =>
      rw [h1] at h
      change runT K 1 S1 (0 + k) = some S at h
      rw [Nat.zero_add, runT] at h
      cases h2 : K[k]? with
      | none => rw [h2] at h; cases h
      | some ks =>
        rw [h2] at h
        dsimp only at h
        cases h3 : stepT S1 k ks with
        | none => rw [h3] at h; cases h
        | some S2 =>
          rw [h3] at h
          change some S2 = some S at h
          cases h
          have hl := (List.getElem?_eq_some_iff.1 h2).1
          obtain ⟨A, B, e1, _, _, e2⟩ := stepT_of h3
          have ih := runT_len h1
          rw [e2, List.length_append, List.length_singleton]
          rcases ih with ⟨i1, i2⟩ | ⟨i1, i2⟩
          · rw [e1, List.length_append] at i1; omega
          · rw [e1] at i2; have := List.append_eq_nil_iff.1 i2; rw [this.1]; simp; omega

end Go.Proofs.YtpbopjgmiaoomaaGreatDoor

namespace Go.Proofs.YtpbopjgmiaoomaaGreatDoor
open Go.RowKit
set_option linter.unusedVariables false

/-- what stands aside of a row that grows -/
theorem Ints.keep {w w' : World} {v v' : Value} {a : Option Addr} {n c : Nat} {L : List Int} (h : Ints w a n c L) (k : Keep w v w' v') (ha : ∀ x, a = some x → some x.block ≠ v.ownBlock) : Ints w' a n c L :=
  ⟨h.len, h.small, fun j hj => by
    obtain ⟨b, off, hb, hl, c0⟩ := h.cells j hj
    exact ⟨b, off, hb, Nat.lt_of_lt_of_le hl k.2.2, (World.cell?_of_block (w := w) (k.1 b hl (ha _ hb))).trans c0⟩⟩

/-- the type of a node -/
def nodeTy (Es : List Ex) (ts : List Int) (i : Nat) : Option Int := (Es[i]?).bind (tyE ts)

def TrAns (B : Nat) (tv : Value) (tt : List Int) (o : Option (List Int)) (w : World) (r : Ending) (w' : World) : Prop :=
  (∃ ys v', o = some ys ∧ r = .returned (.tuple #[v', .agg #[.int .i64 0, .int .i64 0]]) ∧ w'.ownsRow B 3 1 v' (tt ++ ys).length (intsV (tt ++ ys)) ∧ Keep w tv w' v' ∧ Below B w w') ∨
  (o = none ∧ (∃ v' code a, r = .returned (.tuple #[v', .agg #[.int .i64 code, .int .i64 a]]) ∧ (v' = .slice none 0 0 ∨ ∃ x n c, v' = .slice x n c) ∧ code ≠ 0) ∧ Below B w w')

set_option maxRecDepth 100000 in
set_option maxHeartbeats 3200000 in
theorem l3tree_any (a : Option Addr) (n c : Nat) (N : List Nd) (hU : ∀ x ∈ N, fieldsU x = true) (w0 : World) (hN : Nds w0 a n c N) (B : Nat) (hB : w0.heap.size ≤ B) (lb : Nat) (la : Option Addr) (ln lc : Nat) (ts : List Int) (hin : ∀ t ∈ ts, 1 ≤ t ∧ t ≤ 4) (Es : List Ex) (hEl : Es.length = n) (hE : ∀ j, (h : j < Es.length) → IsT N j Es[j])
    (f m : Nat) (hfm : f + m ≤ n) (hf : 1 ≤ f + m) (hn : n ≤ 4000) (tv : Value) (tt : List Int) (htt : tt.length ≤ 4000) (w : World) (hw : Below w0.heap.size w0 w) (hBw : B ≤ w.heap.size) (h2 : w.cell? ⟨lb, 1, none⟩ = some (.slice la ln lc)) (h3 : lb < w.heap.size) (h4 : Ints w la ln lc ts) (h5 : some lb ≠ tv.ownBlock) (h6 : ∀ x, la = some x → some x.block ≠ tv.ownBlock) (O1 : w.ownsRow B 3 1 tv tt.length (intsV tt)) :
    Calls Tryz.prog 73 #[.slice a n c, .int .i64 f, .int .i64 ((f + m : Nat) - 1 : Int), .pointer (some ⟨lb, 0, none⟩), tv] w (TrAns B tv tt (allO ((List.range' f m).map (nodeTy Es ts))) w) := by
  obtain ⟨ii, hii, ez0, ez1, ez2⟩ := info_parts infoI
  obtain ⟨xv, cv, rfl, _⟩ := owns_form2 O1
  have H0 : ∀ k, k < m → ∀ W, Below w0.heap.size w0 W → W.cell? ⟨lb, 1, none⟩ = some (.slice la ln lc) → lb < W.heap.size → Ints W la ln lc ts → Calls Tryz.prog 96 #[.slice a n c, .int .i64 ((f + k : Nat) : Int), .pointer (some ⟨lb, 0, none⟩)] W (NdAns (nodeTy Es ts (f + k)) W) := fun k hk W q1 q2 q3 q4 => by
    have hlt : f + k < Es.length := by omega
    rw [nodeTy, List.getElem?_eq_getElem hlt]
    exact l3node_any a n c N hU lb la ln lc ts hin (hE (f + k) hlt) W (hN.below q1 (Nat.le_refl _)) q2 q3 q4
  have HV := hide H0
  have Hw := hide hw
  obtain ⟨os, hos⟩ : ∃ os, os = (List.range' f m).map (nodeTy Es ts) := ⟨_, rfl⟩
  have HOS := hide (show ∀ k, (h : k < m) → ∃ h2 : k < os.length, os[k] = nodeTy Es ts (f + k) from fun k h => ⟨by rw [hos]; simpa using h, by simp [hos]⟩)
  have HOL := hide (show os.length = m by rw [hos]; simp)
  rw [← hos]
  have R0 := Row.new w #[.int .i64 0, .int .i64 0] 96
  have B0 := (Below.refl w.heap.size w).alloc (Nat.le_refl _) (.cells #[.int .i64 0, .int .i64 0] 96)
  have O0 := O1.alloc (.cells #[.int .i64 0, .int .i64 0] 96)
  have z0 : (w.alloc (.cells #[.int .i64 0, .int .i64 0] 96)).heap.size = w.heap.size + 1 := by simp
  have q0 := (B0.cell (p := ⟨lb, 1, none⟩) h3).trans h2
  have I0 := h4.below B0 (Nat.le_refl _)
  have hlb0 : lb < (w.alloc (.cells #[.int .i64 0, .int .i64 0] 96)).heap.size := by omega
  have hown : some w.heap.size ≠ (Value.slice xv tt.length cv).ownBlock := fun e => by have := (O1.lt _ e.symm).2; omega
  have KP0 : ∀ W v, Keep (w.alloc (.cells #[.int .i64 0, .int .i64 0] 96)) (.slice xv tt.length cv) W v → Keep w (.slice xv tt.length cv) W v := fun W v k =>
    ⟨fun j h1 h2 => (k.1 j (by omega) h2).trans (Below.heap_alloc w _ j h1), fun q hq => by rcases k.2.1 q hq with e | e; exact .inl e; right; omega, by have := k.2.2; omega⟩
  have HKP := hide KP0
  clear hos H0 hE hEl hw hN hU O1 h4 h2 hin KP0
  obtain ⟨tp, htp⟩ : ∃ tp : Int, tp = (f + m : Nat) - 1 := ⟨_, rfl⟩
  rw [← htp]
  have HTP := hide htp
  have HFM := hide (show f + m ≤ 4000 by omega)
  clear htp hfm hf
  go_enter Tryz.func73, Tryz.ntmps73
  go_wp2_with fail
  generalize w.alloc (.cells #[.int .i64 0, .int .i64 0] 96) = W1 at R0 B0 O0 z0 q0 I0 hlb0 HKP ⊢
  have Z0 := hide z0
  clear z0
  go_loopw [4, 12] (fun v i wr => ∃ (j fj : Nat) (K TK : List Int), Hid (j ≤ m ∧ fj = f + j ∧ TK = tt ++ K) ∧ i = .int .i64 fj ∧ wr.ownsRow B 3 1 v TK.length (intsV TK) ∧ Hid (allO (os.take j) = some K) ∧ Below B W1 wr ∧ Keep W1 (.slice xv tt.length cv) wr v) (fun _ i _ => f + m - (intOf i).toNat)
  case atStart => exact ⟨0, f, [], tt, hide ⟨Nat.zero_le _, rfl, by simp⟩, rfl, O0, hide rfl, Below.refl _ _, Keep.refl _ _⟩
  case round =>
    obtain ⟨j, fj, K, TK, HJ, rfl, Q1, HK, D1, KP⟩ := hrel
    have hql : TK.length ≤ 8000 := by have h1 := allO_len (unhide HK); have h2 := unhide HJ; have h3 := unhide HFM; rw [List.length_take] at h1; rw [h2.2.2, List.length_append]; omega
    have E1 : Below w0.heap.size w0 wr := ((unhide Hw).trans (B0.mono (Nat.le_trans hB hBw))).trans (D1.mono hB)
    have zb : B ≤ wr.heap.size := Nat.le_trans (by have := unhide Z0; omega) D1.size
    have R1 : Row wr w.heap.size #[.int .i64 0, .int .i64 0] 96 := ⟨(KP.1 _ R0.lt hown).trans R0.out⟩
    by_cases hjl : j < m
    · have ijl : (fj : Int) ≤ tp := by have := unhide HJ; have := unhide HTP; omega
      have q1 : wr.cell? ⟨lb, 1, none⟩ = some (.slice la ln lc) := (World.cell?_of_block (w := W1) (KP.1 lb hlb0 h5)).trans q0
      have lb1 := Nat.lt_of_lt_of_le hlb0 KP.2.2
      have I1 := I0.keep KP h6
      have HC := hide (unhide HV j hjl wr E1 q1 lb1 I1)
      obtain ⟨hjo, hoj⟩ := unhide HOS j hjl
      have HS := hide (show allO (os.take (j + 1)) = os[j].map (fun t => K ++ [t]) by rw [List.take_succ_eq_append_getElem hjo]; exact allO_snoc _ _ _ (unhide HK))
      have HZ := hide (show os[j] = none → allO os = none from fun e => allO_none os (j + 1) (by rw [unhide HS, e]; rfl))
      rw [hoj] at HS HZ
      have Hjl := hide hjl
      have ij2 : fj ≤ 4000 := by have := unhide HJ; have := unhide HFM; omega
      generalize nodeTy Es ts (f + j) = oj at HC HS HZ hoj
      rw [← (unhide HJ).2.1] at HC
      obtain ⟨yv, dv, rfl, _⟩ := owns_form2 Q1
      clear hjo hjl hoj I1
      go_wp2_with fail
      refine (unhide HC).mono ?_
      rintro r w2 ⟨⟨ty, code, rfl, hr⟩, hb2⟩
      have D2 := D1.trans (hb2.mono zb)
      have Q2 := ownsRow_below Q1 hb2 (Nat.le_refl _)
      have KB : Keep wr (.slice yv TK.length dv) w2 (.slice yv TK.length dv) := ⟨fun k h _ => hb2.block k h, fun q h => .inl h, hb2.size⟩
      have KP2 := KP.trans KB
      have R2 := R1.after hb2 (Nat.le_refl _)
      have zb2 : B ≤ w2.heap.size := Nat.le_trans zb hb2.size
      rcases hr with ⟨rfl, rfl⟩ | ⟨hc, rfl⟩
      · have HS2 := hide (show allO (os.take (j + 1)) = some (K ++ [ty]) from unhide HS)
        clear HS HZ HC
        dsimp only
        go_wp2_with (at_builtin; refine wpList_append_lies _ rfl _ _ 24 rfl B 3 ii (.int .i64 0) 1 8 Tryz.underlying24 hii ez0 ez1 ez2 rfl (by decide) _ _ _ rfl (World.ownsRow.alloc Q2 _) ⟨w2.heap.size, 0, none⟩ 1 1 [.int .i64 ty] rfl rfl ?c1 ?c2 (by decide) ?c3 ?c4 ?c5 (w2.heap.size + 1) (by simp) ?_)
        case c1 => exact one_cell _ _ _ _ (by simp)
        case c2 => intro u hu; simp at hu; subst hu; rfl
        case c3 => unfold maxLen; omega
        case c4 => omega
        case c5 => simp; omega
        intro g cap w3 O3 hgrow hat hgl
        have KP3 := KP2.trans (keep_append (n := TK.length + 1) (c := cap) hgrow hat)
        have D3 := (D2.alloc zb2 (.cells #[.int .i64 ty] 3)).grown hgrow (by simp; omega) (fun q hq => (Q2.lt q hq).1)
        have O4 := owns_snoc O3
        clear hgrow hat O3
        go_wp2_with fail
        go_roundw
        case rel => exact ⟨j + 1, fj + 1, K ++ [ty], TK ++ [ty], hide ⟨unhide Hjl, by have := unhide HJ; omega, by rw [(unhide HJ).2.2, List.append_assoc]⟩, by go_num, O4, HS2, D3, KP3⟩
        case measure => have := unhide Hjl; have := unhide HJ; simp [intOf]; omega
      · have ec : (code != 0) = true := bne_iff_ne.2 hc
        have HX := hide (unhide HZ rfl)
        have Hc := hide hc
        clear hc HS HZ HC
        obtain ⟨p0, p1⟩ := row2 R2
        have f0 := fun j => R2.frozen j
        have R3 := R2.set 0 (.int .i64 code)
        have f1 := fun j => R3.frozen j
        dsimp only
        have R4 := R3.set 1 (.int .i64 fj)
        have s0 : ((w2.setCell ⟨w.heap.size, 0, none⟩ (.int .i64 code)).setCell ⟨w.heap.size, 1, none⟩ (.int .i64 fj)).cell? ⟨w.heap.size, 0, none⟩ = some (.int .i64 code) := R4.cell 0
        have s1 : ((w2.setCell ⟨w.heap.size, 0, none⟩ (.int .i64 code)).setCell ⟨w.heap.size, 1, none⟩ (.int .i64 fj)).cell? ⟨w.heap.size, 1, none⟩ = some (.int .i64 fj) := R4.cell 1
        go_wp2_with fail
        refine bodyPost_ret (v := .tuple #[.slice yv TK.length dv, .agg #[.int .i64 code, .int .i64 fj]]) (by simp [results, Tryz.results73, go_sem, s0, s1]) rfl (.inr ⟨unhide HX, ⟨_, _, _, rfl, .inr ⟨_, _, _, rfl⟩, unhide Hc⟩, ?_⟩)
        exact (((B0.mono hBw).trans D2).setCell (p := ⟨w.heap.size, 0, none⟩) hBw _).setCell (p := ⟨w.heap.size, 1, none⟩) hBw _
    · have e : j = m := by have := unhide HJ; omega
      have ijl : ¬ ((fj : Int) ≤ tp) := by have := unhide HJ; have := unhide HTP; omega
      subst e
      have HA := hide (show allO os = some K by rw [← unhide HK, List.take_of_length_le (by rw [unhide HOL]; exact Nat.le_refl _)])
      obtain ⟨yv, dv, rfl, _⟩ := owns_form2 Q1
      obtain ⟨p0, p1⟩ := row2 R1
      have f0 := fun j => R1.frozen j
      have R3 := R1.set 0 (.int .i64 0)
      have f1 := fun j => R3.frozen j
      have R4 := R3.set 1 (.int .i64 0)
      have s0 : ((wr.setCell ⟨w.heap.size, 0, none⟩ (.int .i64 0)).setCell ⟨w.heap.size, 1, none⟩ (.int .i64 0)).cell? ⟨w.heap.size, 0, none⟩ = some (.int .i64 0) := R4.cell 0
      have s1 : ((wr.setCell ⟨w.heap.size, 0, none⟩ (.int .i64 0)).setCell ⟨w.heap.size, 1, none⟩ (.int .i64 0)).cell? ⟨w.heap.size, 1, none⟩ = some (.int .i64 0) := R4.cell 1
      have KP2 := unhide HKP _ _ KP
      have hno : ∀ q, (Value.slice yv TK.length dv).ownBlock = some q → q ≠ w.heap.size := fun q hq e => by
        subst e
        rcases KP.2.1 _ hq with e2 | e2
        · exact hown e2.symm
        · have := R0.lt; omega
      go_wp2_with fail
      refine bodyPost_ret (v := .tuple #[.slice yv TK.length dv, .agg #[.int .i64 0, .int .i64 0]]) (by simp [results, Tryz.results73, go_sem, s0, s1]) rfl (.inl ⟨K, _, unhide HA, rfl, ?_, ?_, ?_⟩)
      · rw [← (unhide HJ).2.2]
        exact own_set (own_set Q1 _ _ hno) _ _ hno
      · exact ⟨fun k h1 h2 => ((heap_setCell_other _ _ _ _ (by show k ≠ w.heap.size; omega)).trans (heap_setCell_other _ _ _ _ (by show k ≠ w.heap.size; omega))).trans (KP2.1 k h1 h2), KP2.2.1, by have := KP2.2.2; simpa using this⟩
      · exact (((B0.mono hBw).trans D1).setCell (p := ⟨w.heap.size, 0, none⟩) hBw _).setCell (p := ⟨w.heap.size, 1, none⟩) hBw _

end Go.Proofs.YtpbopjgmiaoomaaGreatDoor

namespace Go.Proofs.YtpbopjgmiaoomaaGreatDoor
open Go.RowKit
set_option linter.unusedVariables false

theorem own_apart {w : World} {B B' n n' size size' : Nat} {e e' : TypeId} {v v' : Value} {xs xs' : List Value} (h : w.ownsRow B e size v n xs) (h' : w.ownsRow B' e' size' v' n' xs') (hne : e ≠ e') : ∀ q, v.ownBlock = some q → v'.ownBlock ≠ some q := fun q hq => by
  rcases h.2 with ⟨hv, _⟩ | ⟨g, cap, cur, hv, _, hg, _⟩
  · rw [hv] at hq; cases hq
  · rw [hv] at hq
    obtain rfl : g = q := by simpa [Value.ownBlock] using hq
    exact own_ne_row ⟨hg⟩ h' hne

/-- the lets and the types found so far -/
structure Lm (B lb : Nat) (ns : List ByteArray) (ts tt : List Int) (nv lv tv : Value) (w : World) : Prop where
  row : Row w lb #[nv, lv] 134
  names : w.ownsRow B 9 1 nv ns.length (ns.map Value.string)
  lets : w.ownsRow B 3 1 lv ts.length (intsV ts)
  types : w.ownsRow B 3 1 tv tt.length (intsV tt)
  low : lb < B
  apart : ∀ q, lv.ownBlock = some q → tv.ownBlock ≠ some q

theorem Lm.below {B lb : Nat} {ns : List ByteArray} {ts tt : List Int} {nv lv tv : Value} {w w' : World} (h : Lm B lb ns ts tt nv lv tv w) (hb : Below w.heap.size w w') : Lm B lb ns ts tt nv lv tv w' :=
  ⟨h.row.after hb (Nat.le_refl _), ownsRow_below h.names hb (Nat.le_refl _), ownsRow_below h.lets hb (Nat.le_refl _), ownsRow_below h.types hb (Nat.le_refl _), h.low, h.apart⟩

theorem Lm.tree {B lb : Nat} {ns : List ByteArray} {ts tt ys : List Int} {nv lv tv tv' : Value} {w w' : World} (h : Lm B lb ns ts tt nv lv tv w) (O : w'.ownsRow B 3 1 tv' (tt ++ ys).length (intsV (tt ++ ys))) (K : Keep w tv w' tv') (hb : Below B w w') : Lm B lb ns ts (tt ++ ys) nv lv tv' w' := by
  refine ⟨h.row.below hb h.low, owns_blocks2 h.names (fun q hq => K.1 q (h.names.lt q hq).2 (fun e => own_apart h.names h.types (by decide) q hq e.symm)), owns_blocks2 h.lets (fun q hq => K.1 q (h.lets.lt q hq).2 (fun e => h.apart q hq e.symm)), O, h.low, fun q hq e => ?_⟩
  rcases K.2.1 q e with e2 | e2
  · exact h.apart q hq e2
  · have := (h.lets.lt q hq).2; omega

/-- a cell of another block is written -/
theorem Lm.set {B lb : Nat} {ns : List ByteArray} {ts tt : List Int} {nv lv tv : Value} {w : World} (h : Lm B lb ns ts tt nv lv tv w) (p : Addr) (u : Value) (h1 : p.block < B) (h2 : p.block ≠ lb) : Lm B lb ns ts tt nv lv tv (w.setCell p u) :=
  ⟨h.row.setFar (fun e => h2 e.symm) u, own_set3 h.names p u (fun q hq => by have := (h.names.lt q hq).1; omega), own_set3 h.lets p u (fun q hq => by have := (h.lets.lt q hq).1; omega), own_set3 h.types p u (fun q hq => by have := (h.types.lt q hq).1; omega), h.low, h.apart⟩

theorem Lm.pushN {B lb : Nat} {ns : List ByteArray} {ts tt : List Int} {nv lv tv : Value} {w w3 : World} {o : Obj} {nm : ByteArray} {g cap : Nat} (h : Lm B lb ns ts tt nv lv tv w) (hB : B ≤ w.heap.size)
    (O3 : w3.ownsRow B 9 1 (.slice (some ⟨g, 0, none⟩) (ns.length + 1) cap) (ns.length + 1) (ns.map Value.string ++ [.string nm])) (hgrow : (w.alloc o).grownBy w3 nv.ownBlock) (hat : nv.ownBlock = some g ∨ g = w.heap.size + 1) :
    Row w3 lb #[nv, lv] 134 ∧ Lm B lb (ns ++ [nm]) ts tt (.slice (some ⟨g, 0, none⟩) (ns.length + 1) cap) lv tv (w3.setCell ⟨lb, 0, none⟩ (.slice (some ⟨g, 0, none⟩) (ns.length + 1) cap)) ∧
    (∀ k, k < w.heap.size → k ≠ lb → some k ≠ nv.ownBlock → (w3.setCell ⟨lb, 0, none⟩ (.slice (some ⟨g, 0, none⟩) (ns.length + 1) cap)).heap[k]? = w.heap[k]?) ∧ w.heap.size ≤ w3.heap.size := by
  have n1 := own_ne_row h.row h.names (by decide)
  have n2 := own_ne_row h.row h.lets (by decide)
  have n3 := own_ne_row h.row h.types (by decide)
  have R3 := (h.row.alloc o).grown hgrow (fun e => n1 e.symm)
  have n4 := own_ne_row R3 O3 (by decide)
  have ng : g ≠ lb := fun e => n4 (by rw [e]; rfl)
  have za : (w.alloc o).heap.size = w.heap.size + 1 := by simp
  have kb : ∀ k, k < w.heap.size → k ≠ lb → some k ≠ nv.ownBlock → (w3.setCell ⟨lb, 0, none⟩ (.slice (some ⟨g, 0, none⟩) (ns.length + 1) cap)).heap[k]? = w.heap[k]? := fun k h1 h2 h3 =>
    (heap_setCell_other w3 ⟨lb, 0, none⟩ k _ h2).trans ((hgrow.block k (by rw [za]; omega) h3).trans (Below.heap_alloc w o k h1))
  have zz : w.heap.size ≤ w3.heap.size := by have := hgrow.size; omega
  refine ⟨R3, ⟨R3.set 0 (.slice (some ⟨g, 0, none⟩) (ns.length + 1) cap), ?_, owns_blocks2 h.lets (fun q hq => kb q (h.lets.lt q hq).2 (fun e => n2 (e ▸ hq)) (fun e => own_apart h.names h.lets (by decide) q e.symm hq)), owns_blocks2 h.types (fun q hq => kb q (h.types.lt q hq).2 (fun e => n3 (e ▸ hq)) (fun e => own_apart h.names h.types (by decide) q e.symm hq)), h.low, h.apart⟩, kb, zz⟩
  rw [List.map_append, List.length_append]
  refine own_set3 O3 ⟨lb, 0, none⟩ _ (fun q hq => ?_)
  have : g = q := by simpa [Value.ownBlock] using hq
  subst this
  exact ng

theorem Lm.pushL {B lb : Nat} {ns : List ByteArray} {ts tt : List Int} {nv lv tv : Value} {w w3 : World} {o : Obj} {t : Int} {g cap : Nat} (h : Lm B lb ns ts tt nv lv tv w) (hB : B ≤ w.heap.size)
    (O3 : w3.ownsRow B 3 1 (.slice (some ⟨g, 0, none⟩) (ts.length + 1) cap) (ts.length + 1) (intsV ts ++ [.int .i64 t])) (hgrow : (w.alloc o).grownBy w3 lv.ownBlock) (hat : lv.ownBlock = some g ∨ g = w.heap.size + 1) :
    Row w3 lb #[nv, lv] 134 ∧ Lm B lb ns (ts ++ [t]) tt nv (.slice (some ⟨g, 0, none⟩) (ts.length + 1) cap) tv (w3.setCell ⟨lb, 1, none⟩ (.slice (some ⟨g, 0, none⟩) (ts.length + 1) cap)) ∧
    (∀ k, k < w.heap.size → k ≠ lb → some k ≠ lv.ownBlock → (w3.setCell ⟨lb, 1, none⟩ (.slice (some ⟨g, 0, none⟩) (ts.length + 1) cap)).heap[k]? = w.heap[k]?) ∧ w.heap.size ≤ w3.heap.size := by
  have n1 := own_ne_row h.row h.names (by decide)
  have n2 := own_ne_row h.row h.lets (by decide)
  have n3 := own_ne_row h.row h.types (by decide)
  have R3 := (h.row.alloc o).grown hgrow (fun e => n2 e.symm)
  have n4 := own_ne_row R3 O3 (by decide)
  have ng : g ≠ lb := fun e => n4 (by rw [e]; rfl)
  have za : (w.alloc o).heap.size = w.heap.size + 1 := by simp
  have kb : ∀ k, k < w.heap.size → k ≠ lb → some k ≠ lv.ownBlock → (w3.setCell ⟨lb, 1, none⟩ (.slice (some ⟨g, 0, none⟩) (ts.length + 1) cap)).heap[k]? = w.heap[k]? := fun k h1 h2 h3 =>
    (heap_setCell_other w3 ⟨lb, 1, none⟩ k _ h2).trans ((hgrow.block k (by rw [za]; omega) h3).trans (Below.heap_alloc w o k h1))
  have zz : w.heap.size ≤ w3.heap.size := by have := hgrow.size; omega
  refine ⟨R3, ⟨R3.set 1 (.slice (some ⟨g, 0, none⟩) (ts.length + 1) cap), owns_blocks2 h.names (fun q hq => kb q (h.names.lt q hq).2 (fun e => n1 (e ▸ hq)) (fun e => own_apart h.names h.lets (by decide) q hq e.symm)), ?_, owns_blocks2 h.types (fun q hq => kb q (h.types.lt q hq).2 (fun e => n3 (e ▸ hq)) (fun e => h.apart q e.symm hq)), h.low, fun q hq e => ?_⟩, kb, zz⟩
  · rw [intsV, List.map_append, List.length_append]
    refine own_set3 O3 ⟨lb, 1, none⟩ _ (fun q hq => ?_)
    have : g = q := by simpa [Value.ownBlock] using hq
    subst this
    exact ng
  · have : g = q := by simpa [Value.ownBlock] using hq
    subst this
    rcases hat with hat | hat
    · exact h.apart g hat e
    · have := (h.types.lt g e).2; omega

/-- all that a round of the checker stands on -/
structure Ls (B rb lb fb sb : Nat) (ns : List ByteArray) (ts tt : List Int) (nv lv tv : Value) (S : Array Value) (fc fa : Int) (w0 w : World) : Prop where
  M : Lm B lb ns ts tt nv lv tv w
  F : Row w fb #[.int .i64 fc, .int .i64 fa] 96
  R : Row w rb #[.int .i64 0, .int .i64 0] 96
  S : Row w sb S 49
  low : Below rb w0 w
  ord : rb < lb ∧ lb < fb ∧ fb < B ∧ B ≤ sb

theorem Ls.below {B rb lb fb sb : Nat} {ns : List ByteArray} {ts tt : List Int} {nv lv tv : Value} {S : Array Value} {fc fa : Int} {w0 w w' : World} (h : Ls B rb lb fb sb ns ts tt nv lv tv S fc fa w0 w) (hb : Below w.heap.size w w') : Ls B rb lb fb sb ns ts tt nv lv tv S fc fa w0 w' :=
  ⟨h.M.below hb, h.F.after hb (Nat.le_refl _), h.R.after hb (Nat.le_refl _), h.S.after hb (Nat.le_refl _), h.low.trans (hb.mono (by have := h.R.lt; omega)), h.ord⟩

theorem Ls.tree {B rb lb fb sb : Nat} {ns : List ByteArray} {ts tt ys : List Int} {nv lv tv tv' : Value} {S : Array Value} {fc fa : Int} {w0 w w' : World} (h : Ls B rb lb fb sb ns ts tt nv lv tv S fc fa w0 w) (O : w'.ownsRow B 3 1 tv' (tt ++ ys).length (intsV (tt ++ ys))) (K : Keep w tv w' tv') (hb : Below B w w') : Ls B rb lb fb sb ns ts (tt ++ ys) nv lv tv' S fc fa w0 w' :=
  ⟨h.M.tree O K hb, h.F.below hb h.ord.2.2.1, h.R.below hb (by have := h.ord; omega), ⟨(K.1 sb h.S.lt (fun e => own_ne_row h.S h.M.types (by decide) e.symm)).trans h.S.out⟩, h.low.trans (hb.mono (by have := h.ord; omega)), h.ord⟩

/-- the fault is laid -/
theorem Ls.fault {B rb lb fb sb : Nat} {ns : List ByteArray} {ts tt : List Int} {nv lv tv : Value} {S : Array Value} {fc fa : Int} {w0 w : World} (h : Ls B rb lb fb sb ns ts tt nv lv tv S fc fa w0 w) (c a : Int) : Ls B rb lb fb sb ns ts tt nv lv tv S c a w0 ((w.setCell ⟨fb, 0, none⟩ (.int .i64 c)).setCell ⟨fb, 1, none⟩ (.int .i64 a)) := by
  have o := h.ord
  refine ⟨(h.M.set ⟨fb, 0, none⟩ _ o.2.2.1 (by show fb ≠ lb; omega)).set ⟨fb, 1, none⟩ _ o.2.2.1 (by show fb ≠ lb; omega), (h.F.set 0 _).set 1 _, (h.R.setFar (by show rb ≠ fb; omega) _).setFar (by show rb ≠ fb; omega) _, (h.S.setFar (by show sb ≠ fb; omega) _).setFar (by show sb ≠ fb; omega) _, ?_, o⟩
  exact (h.low.setCell (p := ⟨fb, 0, none⟩) (by show rb ≤ fb; omega) _).setCell (p := ⟨fb, 1, none⟩) (by show rb ≤ fb; omega) _

theorem Ls.of_kept {B rb lb fb sb : Nat} {ns ns' : List ByteArray} {ts tt ts' : List Int} {nv lv tv nv' lv' : Value} {S : Array Value} {fc fa : Int} {w0 w w' : World} {e : TypeId} {size n : Nat} {xv : Value} {xs : List Value} (h : Ls B rb lb fb sb ns ts tt nv lv tv S fc fa w0 w) (hx : w.ownsRow B e size xv n xs) (h1 : 96 ≠ e) (h2 : 49 ≠ e)
    (M : Lm B lb ns' ts' tt nv' lv' tv w') (hk : ∀ k, k < w.heap.size → k ≠ lb → some k ≠ xv.ownBlock → w'.heap[k]? = w.heap[k]?) (hb : Below rb w w') : Ls B rb lb fb sb ns' ts' tt nv' lv' tv S fc fa w0 w' := by
  have o := h.ord
  exact ⟨M, ⟨(hk fb h.F.lt (by omega) (fun q => own_ne_row h.F hx h1 q.symm)).trans h.F.out⟩, ⟨(hk rb h.R.lt (by omega) (fun q => own_ne_row h.R hx h1 q.symm)).trans h.R.out⟩, ⟨(hk sb h.S.lt (by omega) (fun q => own_ne_row h.S hx h2 q.symm)).trans h.S.out⟩, h.low.trans hb, o⟩

end Go.Proofs.YtpbopjgmiaoomaaGreatDoor

namespace Go.Proofs.YtpbopjgmiaoomaaGreatDoor
open Go.RowKit
set_option linter.unusedVariables false

/-- what the program answers -/
def wellT (N : List Nd) (L : List St) : Bool := decide (N.length ≤ 4000) && (decide (1 ≤ L.length ∧ L.length ≤ 600) && stmtsI L) && N.all fieldsT && shapeI N L

set_option maxRecDepth 100000 in
set_option maxHeartbeats 3200000 in
theorem wellFormedT_any (a b : Option Addr) (n c m d : Nat) (N : List Nd) (L : List St) (w : World) (h1 : Nds w a n c N) (h2 : Sts w b m d L) (hT : TabOK w) :
    Calls Tryz.prog 51 #[.agg #[.slice a n c, .slice b m d], .func (.func 52) #[] #[]] w fun e w' => e = .returned (.bool (wellT N L)) ∧ Below w.heap.size w w' := by
  have s1 := h1.small
  have s2 := h2.small
  have HN := hide h1.len
  have HL := hide h2.len
  have HF := hide (show wellT N L = (decide (n ≤ 4000) && (decide (1 ≤ m ∧ m ≤ 600) && stmtsI L) && N.all fieldsT && shapeI N L) by rw [wellT, h1.len, h2.len])
  have R0 := Row.new w #[.slice a n c, .slice b m d] 72
  have B0 := (Below.refl w.heap.size w).alloc (Nat.le_refl _) (.cells #[.slice a n c, .slice b m d] 72)
  have N0 := h1.below B0 (Nat.le_refl _)
  have L0 := h2.below B0 (Nat.le_refl _)
  have T0 := hT.below B0 (Nat.le_refl _)
  go_enter Tryz.func51, Tryz.ntmps51
  by_cases hn : 4000 < n
  · have ih : (4000 : Int) < (n : Int) := by omega
    have HX := hide (show wellT N L = false by rw [unhide HF, decide_eq_false (by omega)]; rfl)
    clear hn
    go_wp2_with fail
    go_ret
    exact ⟨ret_bool (unhide HX).symm, B0⟩
  have ih : ¬ ((4000 : Int) < (n : Int)) := by omega
  have HG := hide (show wellT N L = ((decide (1 ≤ m ∧ m ≤ 600) && stmtsI L) && N.all fieldsT && shapeI N L) by rw [unhide HF, decide_eq_true (by omega)]; rfl)
  clear hn HF
  generalize hv1 : (decide (1 ≤ m ∧ m ≤ 600) && stmtsI L) = v1 at HG
  have Hv1 := hide hv1
  clear hv1
  cases v1
  · have HX := hide (show wellT N L = false by rw [unhide HG]; rfl)
    go_wp2_with (go_at_call 77; refine (validStmts_any _ _ _ _ _ L0).mono ?_; rintro e w2 ⟨rfl, hb2⟩; rw [unhide Hv1])
    go_ret
    exact ⟨ret_bool (unhide HX).symm, B0.trans (hb2.mono B0.size)⟩
  · have HG2 := hide (show wellT N L = (N.all fieldsT && shapeI N L) by rw [unhide HG, Bool.true_and])
    clear HG
    generalize hv2 : N.all fieldsT = v2 at HG2
    have Hv2 := hide hv2
    clear hv2
    cases v2
    · have HX := hide (show wellT N L = false by rw [unhide HG2]; rfl)
      go_wp2_with (first
        | (go_at_call 77; refine (validStmts_any _ _ _ _ _ L0).mono ?_; rintro e w2 ⟨rfl, hb2⟩; rw [unhide Hv1]; obtain ⟨q0, q1⟩ := row2 (R0.after hb2 (Nat.le_refl _)))
        | (go_at_call 78; refine (validNodesT_any _ _ _ _ _ (N0.below hb2 (Nat.le_refl _)) (T0.below hb2 (Nat.le_refl _))).mono ?_; rintro e w3 ⟨rfl, hb3⟩; rw [unhide Hv2]))
      go_ret
      exact ⟨ret_bool (unhide HX).symm, B0.trans ((hb2.trans (hb3.mono hb2.size)).mono B0.size)⟩
    · have HG3 := hide (show wellT N L = shapeI N L by rw [unhide HG2, Bool.true_and])
      clear HG2
      have HS := hide (show shapeI N L = match runT (N.map Nd.kids) n [] 0 with | none => false | some S => decide (topsI S = L.flatMap askedOf) by rw [shapeI, unhide HN]; try rfl)
      have HT := hide (fun S => (runT_len (K := N.map Nd.kids) (k := n) (S := S)))
      generalize hrn : runT (N.map Nd.kids) n [] 0 = rn at HS HT
      have Hrn := hide hrn
      clear hrn
      cases rn with
      | none =>
        have HX := hide (show wellT N L = false by rw [unhide HG3, unhide HS])
        go_wp2_with (first
          | (go_at_call 77; refine (validStmts_any _ _ _ _ _ L0).mono ?_; rintro e w2 ⟨rfl, hb2⟩; rw [unhide Hv1]; obtain ⟨q0, q1⟩ := row2 (R0.after hb2 (Nat.le_refl _)))
          | (go_at_call 78; refine (validNodesT_any _ _ _ _ _ (N0.below hb2 (Nat.le_refl _)) (T0.below hb2 (Nat.le_refl _))).mono ?_; rintro e w3 ⟨rfl, hb3⟩; rw [unhide Hv2]; have hb3' := hb2.trans (hb3.mono hb2.size); obtain ⟨r0, r1⟩ := row2 (R0.after hb3' (Nat.le_refl _)))
          | (go_at_call 79; refine (topsOf_any _ _ _ _ _ (N0.below hb3' (Nat.le_refl _))).mono ?_; rw [unhide Hrn]; rintro e w4 ⟨he, hb4⟩; change e = _ at he; subst he))
        go_ret
        exact ⟨ret_bool (unhide HX).symm, B0.trans ((hb3'.trans (hb4.mono hb3'.size)).mono B0.size)⟩
      | some S =>
        obtain ⟨AL, HAL⟩ : ∃ AL, Hid (L.flatMap askedOf = AL) := ⟨_, hide rfl⟩
        obtain ⟨TL, HTL⟩ : ∃ TL, Hid (topsI S = TL) := ⟨_, hide rfl⟩
        have HX := hide (show wellT N L = decide (TL = AL) by rw [unhide HG3, unhide HS, unhide HAL]; show decide (topsI S = AL) = _; rw [unhide HTL])
        have hSl : S.length ≤ n := by
          rcases unhide HT S rfl with k | ⟨_, k⟩
          · exact k.1
          · subst k; simp
        have hm6 : m ≤ 600 := (of_decide_eq_true (Bool.and_eq_true _ _ ▸ unhide Hv1).1).2
        have hal : AL.length ≤ 2 * m := by have := asked_len L; rw [unhide HL, unhide HAL] at this; exact this
        go_wp2_with (first
          | (go_at_call 77; refine (validStmts_any _ _ _ _ _ L0).mono ?_; rintro e w2 ⟨rfl, hb2⟩; rw [unhide Hv1]; obtain ⟨q0, q1⟩ := row2 (R0.after hb2 (Nat.le_refl _)))
          | (go_at_call 78; refine (validNodesT_any _ _ _ _ _ (N0.below hb2 (Nat.le_refl _)) (T0.below hb2 (Nat.le_refl _))).mono ?_; rintro e w3 ⟨rfl, hb3⟩; rw [unhide Hv2]; have hb3' := hb2.trans (hb3.mono hb2.size); obtain ⟨r0, r1⟩ := row2 (R0.after hb3' (Nat.le_refl _)))
          | (go_at_call 79; refine (topsOf_any _ _ _ _ _ (N0.below hb3' (Nat.le_refl _))).mono ?_; rw [unhide Hrn]; rintro e w4 ⟨⟨v, he, O4⟩, hb4⟩; subst he; rw [unhide HTL] at O4; obtain ⟨xv, cv, rfl, _⟩ := owns_form2 O4; have hb4' := hb3'.trans (hb4.mono hb3'.size); obtain ⟨t0, t1⟩ := row2 (R0.after hb4' (Nat.le_refl _)); have I4 := ints_of_row O4 (by omega))
          | (go_at_call 80; refine (topsAsked_any _ _ _ _ _ (L0.below hb4' (Nat.le_refl _))).mono ?_; rintro e w5 ⟨v, rfl, O5, hb5⟩; rw [unhide HAL] at O5; obtain ⟨xu, cu, rfl, _⟩ := owns_form2 O5; have I5 := ints_of_row O5 (by omega); have I6 := I4.below hb5 (Nat.le_refl _); have hb5' := hb4'.trans (hb5.mono hb4'.size))
          | (go_at_call 55; refine (equalI_any _ _ _ _ _ _ _ _ _ I6 I5).mono ?_; rintro e w6 ⟨rfl, hb6⟩))
        go_ret
        exact ⟨ret_bool (unhide HX).symm, B0.trans ((hb5'.trans (hb6.mono hb5'.size)).mono B0.size)⟩

end Go.Proofs.YtpbopjgmiaoomaaGreatDoor

namespace Go.Proofs.YtpbopjgmiaoomaaGreatDoor
open Go.RowKit
set_option linter.unusedVariables false

theorem identB_size {s : ByteArray} (h : identB s = true) : s.size ≤ 32 := by
  unfold identB at h
  have e : (toL s).length = s.size := by simp [toL]
  cases hs : toL s with
  | nil => rw [hs] at e; simp at e; omega
  | cons c r =>
    rw [hs] at h
    simp only [Bool.and_eq_true, decide_eq_true_eq] at h
    rw [← e, hs]
    exact h.1.1.1

theorem kids_at {N : List Nd} {i : Nat} {Es : List Ex} (hl : Es.length = i) (hE : ∀ j, (h : j < Es.length) → IsT N j Es[j]) {k : Int} (hk : 0 ≤ k ∧ k < i) : ∃ (m : Nat) (e : Ex), k = m ∧ m < i ∧ Es[m]? = some e ∧ IsT N m e := by
  refine ⟨k.toNat, Es[k.toNat]'(by omega), by omega, by omega, List.getElem?_eq_getElem _, hE _ _⟩

end Go.Proofs.YtpbopjgmiaoomaaGreatDoor

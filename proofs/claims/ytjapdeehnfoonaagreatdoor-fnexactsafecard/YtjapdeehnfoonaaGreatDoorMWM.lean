/-
  ZF, VPM0. Own work.
-/
import Derived.Test.YtjapdeehnfoonaaGreatDoorMWL
import Derived.Test.YtjapdeehnfoonaaGreatDoorMWK
import Derived.Test.YtjapdeehnfoonaaGreatDoorMWJ
namespace Go.Proofs.YtjapdeehnfoonaaGreatDoor
open Go.RowKit
set_option linter.unusedVariables false

set_option maxRecDepth 100000 in
set_option maxHeartbeats 1600000 in
theorem l3node_attr (a : Option Addr) (n c : Nat) (N : List Nd) (lb : Nat) (w : World) (hN : Nds w a n c N) (i : Nat) (x : Nd) (hx : N[i]? = some x) (hop : x.op = 6) :
    Calls Tryz.prog 64 #[.slice a n c, .int .i64 i, .pointer (some ⟨lb, 0, none⟩)] w (NdAns (some (attrTy x.num)) w) := by
  have hnN := hN.small
  have hlen := hN.len
  have hi : i < N.length := (List.getElem?_eq_some_iff.1 hx).1
  have hxe : N[i] = x := (List.getElem?_eq_some_iff.1 hx).2
  have iin : (i : Int) < (n : Int) := by omega
  obtain ⟨b, off, rfl, hbl, an, nn, cn, ak, nk, ck, c0, c1, c2, c3, c4, hNm, hKd⟩ := hN.cells i hi
  rw [hxe] at c0 c1 c2 hKd
  rw [hop] at c0
  clear hNm hKd
  clear hlen hx hxe hi hop hN
  have B0 := (Below.refl w.heap.size w).alloc (Nat.le_refl _) (.cells #[.int .i64 6, .int .i64 x.num, .string x.text, .slice an nn cn, .slice ak nk ck] 69)
  generalize x.num = nu at *
  generalize x.text = tx at *
  go_enter Tryz.func64, Tryz.ntmps64
  go_wp2_with fail
  refine (l3attrType_any nu _).mono ?_
  rintro r w2 ⟨rfl, rfl⟩
  dsimp only
  go_wp2_with fail
  exact bodyPost_ret (v := .tuple #[.int .i64 (attrTy nu), .int .i64 0]) (by simp [results, Tryz.results64, go_sem]) rfl ⟨⟨_, _, rfl, .inl ⟨rfl, rfl⟩⟩, B0⟩

set_option maxRecDepth 100000 in
set_option maxHeartbeats 1600000 in
theorem l3node_lett (a : Option Addr) (n c : Nat) (N : List Nd) (lb : Nat) (w : World) (hN : Nds w a n c N) (i : Nat) (x : Nd) (hx : N[i]? = some x) (hop : x.op = 7) (h0 : 0 ≤ x.num) (la : Option Addr) (ln lc : Nat) (ts : List Int)
    (hlc : w.cell? ⟨lb, 1, none⟩ = some (.slice la ln lc)) (hlb : lb < w.heap.size) (hts : Ints w la ln lc ts) :
    Calls Tryz.prog 64 #[.slice a n c, .int .i64 i, .pointer (some ⟨lb, 0, none⟩)] w (NdAns ts[x.num.toNat]? w) := by
  have hnN := hN.small
  have hlen := hN.len
  have hi : i < N.length := (List.getElem?_eq_some_iff.1 hx).1
  have hxe : N[i] = x := (List.getElem?_eq_some_iff.1 hx).2
  have iin : (i : Int) < (n : Int) := by omega
  obtain ⟨b, off, rfl, hbl, an, nn, cn, ak, nk, ck, c0, c1, c2, c3, c4, hNm, hKd⟩ := hN.cells i hi
  rw [hxe] at c0 c1 c2 hKd
  rw [hop] at c0
  clear hNm hKd
  clear hlen hx hxe hi hop hN
  have hsl := hts.small
  have htl := hts.len
  generalize x.text = tx at *
  obtain ⟨nu, hnu⟩ : ∃ nu : Nat, x.num = nu := ⟨x.num.toNat, by omega⟩
  rw [hnu] at c1 ⊢
  rw [Int.toNat_natCast]
  have B0 := (Below.refl w.heap.size w).alloc (Nat.le_refl _) (.cells #[.int .i64 7, .int .i64 nu, .string tx, .slice an nn cn, .slice ak nk ck] 69)
  have q1 := (B0.cell (p := ⟨lb, 1, none⟩) hlb).trans hlc
  have T1 := hts.below B0 (Nat.le_refl _)
  clear hnu h0
  by_cases hge : ln ≤ nu
  · have ige : (ln : Int) ≤ (nu : Int) := by omega
    have HX := hide (show ts[nu]? = none from List.getElem?_eq_none (by omega))
    clear hge htl
    go_enter Tryz.func64, Tryz.ntmps64
    go_wp2_with fail
    go_region
    all_goals
      go_wp2_with fail
      exact bodyPost_ret (v := .tuple #[.int .i64 0, .int .i64 7]) (by simp [results, Tryz.results64, go_sem]) rfl ⟨⟨_, _, rfl, .inr ⟨by decide, unhide HX⟩⟩, B0.drew⟩
  · have ige : ¬ ((ln : Int) ≤ (nu : Int)) := by omega
    have ilt : (nu : Int) < (ln : Int) := by omega
    have hlt : nu < ts.length := by omega
    obtain ⟨bt, ot, rfl, hbt, ct⟩ := T1.cells nu hlt
    have HX := hide (show ts[nu]? = some ts[nu] from List.getElem?_eq_getElem hlt)
    generalize ts[nu] = t at ct HX
    clear hge htl hlt
    go_enter Tryz.func64, Tryz.ntmps64
    go_wp2_with fail
    go_region
    all_goals
      go_wp2_with fail
      go_region
      all_goals
        go_wp2_with fail
        exact bodyPost_ret (v := .tuple #[.int .i64 t, .int .i64 0]) (by simp [results, Tryz.results64, go_sem]) rfl ⟨⟨_, _, rfl, .inl ⟨rfl, unhide HX⟩⟩, B0.drew.drew⟩

theorem rowL_len {x : Nd} (h : opOK x.op) (hk : (x.kids.length : Int) = kidN x.op) : (rowL x.op).1.length ≤ x.kids.length := by
  unfold opOK at h
  generalize x.op = op at *
  generalize x.kids.length = m at *
  by_cases h1 : 1 ≤ op ∧ op ≤ 7
  · have : op = 1 ∨ op = 2 ∨ op = 3 ∨ op = 4 := by omega
    rcases this with rfl | rfl | rfl | rfl <;> simp [rowL]
  by_cases h2 : 8 ≤ op ∧ op ≤ 10
  · rw [kidN, if_neg h1, if_pos h2] at hk
    have : op = 8 ∨ op = 9 ∨ op = 10 := by omega
    rcases this with rfl | rfl | rfl <;> simp [rowL] <;> omega
  by_cases h3 : 11 ≤ op ∧ op ≤ 26
  · rw [kidN, if_neg h1, if_neg h2, if_pos h3] at hk
    have : op = 11 ∨ op = 12 ∨ op = 13 ∨ op = 14 ∨ op = 15 ∨ op = 16 ∨ op = 17 ∨ op = 18 ∨ op = 19 ∨ op = 20 ∨ op = 21 ∨ op = 22 ∨ op = 23 ∨ op = 24 ∨ op = 25 ∨ op = 26 := by omega
    rcases this with rfl | rfl | rfl | rfl | rfl | rfl | rfl | rfl | rfl | rfl | rfl | rfl | rfl | rfl | rfl | rfl <;> simp [rowL] <;> omega
  · have h4 : op = 27 := by omega
    rw [kidN, if_neg h1, if_neg h2, if_neg h3, if_pos h4] at hk
    subst h4
    simp [rowL]
    omega

theorem tyN_un {op : Int} (h : 8 ≤ op ∧ op ≤ 10) (ts : List Int) (i : Int) (k : Ex) : tyN op [tyE ts k] = tyE ts (.un i op k) := by
  rw [tyE]
  cases tyE ts k with
  | none => rfl
  | some a => show _ = nz (tyOp op [a]); rw [← typeL_un op a h]; rfl

theorem tyN_bin {op : Int} (h : 11 ≤ op ∧ op ≤ 26) {ts : List Int} (hin : ∀ t ∈ ts, 1 ≤ t ∧ t ≤ 4) (i : Int) (k l : Ex) : tyN op [tyE ts k, tyE ts l] = tyE ts (.bin i op k l) := by
  rw [tyE]
  have ha := tyE_in hin k
  cases hk : tyE ts k with
  | none => rfl
  | some a =>
    have := ha a hk
    cases tyE ts l with
    | none => rfl
    | some b => show _ = nz (tyOp op [a, b]); rw [← typeL_bin op a b h (by omega)]; rfl

theorem tyN_ite {ts : List Int} (hin : ∀ t ∈ ts, 1 ≤ t ∧ t ≤ 4) (i : Int) (k l m : Ex) : tyN 27 [tyE ts k, tyE ts l, tyE ts m] = tyE ts (.ite i k l m) := by
  rw [tyE]
  have hb := tyE_in hin l
  cases hk : tyE ts k with
  | none => rfl
  | some a =>
    cases hl : tyE ts l with
    | none => rfl
    | some b =>
      have := hb b hl
      cases tyE ts m with
      | none => rfl
      | some c => show _ = nz (tyOp 27 [a, b, c]); rw [← typeL_ite a b c (by omega)]; rfl

/-- the type of any node of a typed policy -/
theorem l3node_any (a : Option Addr) (n c : Nat) (N : List Nd) (hU : ∀ x ∈ N, fieldsU x = true) (lb : Nat) (la : Option Addr) (ln lc : Nat) (ts : List Int) (hin : ∀ t ∈ ts, 1 ≤ t ∧ t ≤ 4) {i : Nat} {e : Ex} (t : IsT N i e) :
    ∀ w, Nds w a n c N → w.cell? ⟨lb, 1, none⟩ = some (.slice la ln lc) → lb < w.heap.size → Ints w la ln lc ts →
    Calls Tryz.prog 64 #[.slice a n c, .int .i64 i, .pointer (some ⟨lb, 0, none⟩)] w (NdAns (tyE ts e) w) := by
  have U : ∀ {i : Nat} {x : Nd}, N[i]? = some x → (x.kids.length : Int) = kidN x.op ∧ x.op ≠ 5 ∧ (x.op = 7 → 0 ≤ x.num) := fun {i x} hx => by
    have h := hU _ (List.mem_of_getElem? hx)
    have h2 := ((fieldsU_iff x).1 h).2
    rw [fieldsU, Bool.and_eq_true, decide_eq_true_eq] at h
    refine ⟨h.1, fun e => ?_, fun e => (h2 e).1⟩
    have := h.2
    simp [e] at this
  have leaf : ∀ {i : Nat} {x : Nd}, N[i]? = some x → opOK x.op → x.kids = [] → ∀ w, Nds w a n c N → Calls Tryz.prog 64 #[.slice a n c, .int .i64 i, .pointer (some ⟨lb, 0, none⟩)] w (NdAns (tyN x.op []) w) := fun {i x} hx ho hk w h1 =>
    l3node_kids a n c N lb w h1 i x hx ho (rowL_len ho (U hx).1) [] (by rw [hk]; rfl) (fun j h => absurd h (by rw [hk]; simp))
  have step : ∀ {i : Nat} {x : Nd} {os : List (Option Int)}, N[i]? = some x → opOK x.op → ∀ w, Nds w a n c N → w.cell? ⟨lb, 1, none⟩ = some (.slice la ln lc) → lb < w.heap.size → Ints w la ln lc ts → os.length = x.kids.length →
      (∀ (j : Nat) (y : Int) (o : Option Int), x.kids[j]? = some y → os[j]? = some o → ∀ W, Nds W a n c N → W.cell? ⟨lb, 1, none⟩ = some (.slice la ln lc) → lb < W.heap.size → Ints W la ln lc ts → Calls Tryz.prog 64 #[.slice a n c, .int .i64 y, .pointer (some ⟨lb, 0, none⟩)] W (NdAns o W)) →
      Calls Tryz.prog 64 #[.slice a n c, .int .i64 i, .pointer (some ⟨lb, 0, none⟩)] w (NdAns (tyN x.op os) w) := fun {i x os} hx ho w h1 h2 h3 h4 hl V =>
    l3node_kids a n c N lb w h1 i x hx ho (rowL_len ho (U hx).1) os hl (fun j h h' W hb => V j _ _ (List.getElem?_eq_getElem h) (List.getElem?_eq_getElem h') W (h1.below hb (Nat.le_refl _)) ((hb.cell (p := ⟨lb, 1, none⟩) h3).trans h2) (Nat.lt_of_lt_of_le h3 hb.size) (h4.below hb (Nat.le_refl _)))
  induction t with
  | int h ho hk => intro w h1 _ _ _; have := leaf h (by rw [ho]; unfold opOK; omega) hk w h1; rw [ho] at this; exact this
  | text h ho hk => intro w h1 _ _ _; have := leaf h (by rw [ho]; unfold opOK; omega) hk w h1; rw [ho] at this; exact this
  | bool h ho hk => intro w h1 _ _ _; have := leaf h (by rw [ho]; unfold opOK; omega) hk w h1; rw [ho] at this; exact this
  | set h ho hk _ _ _ => intro w h1 _ _ _; have := leaf h (by rw [ho]; unfold opOK; omega) hk w h1; rw [ho] at this; exact this
  | name h ho hk => exact absurd ho (U h).2.1
  | attr h ho hk => intro w h1 _ _ _; exact l3node_attr a n c N lb w h1 _ _ h ho
  | @lett i x h ho hk =>
    intro w h1 h2 h3 h4
    have h0 := (U h).2.2 ho
    have := l3node_lett a n c N lb w h1 _ _ h ho h0 la ln lc ts h2 h3 h4
    rw [tyE, if_pos h0]
    exact this
  | @un i k x e h ho hk hi t ih =>
    intro w h1 h2 h3 h4
    rw [← tyN_un ho]
    refine step h (by unfold opOK; omega) w h1 h2 h3 h4 (by rw [hk]; rfl) (fun j y o hy hoj W => ?_)
    rw [hk] at hy
    match j with
    | 0 => cases hy; cases hoj; exact ih W
    | j + 1 => simp at hy
  | @bin i k l x e f h ho hk hi t u ih1 ih2 =>
    intro w h1 h2 h3 h4
    rw [← tyN_bin ho hin]
    refine step h (by unfold opOK; omega) w h1 h2 h3 h4 (by rw [hk]; rfl) (fun j y o hy hoj W => ?_)
    rw [hk] at hy
    match j with
    | 0 => cases hy; cases hoj; exact ih1 W
    | 1 => cases hy; cases hoj; exact ih2 W
    | j + 2 => simp at hy
  | @ite i k l m x e f g h ho hk hi t u v ih1 ih2 ih3 =>
    intro w h1 h2 h3 h4
    rw [← tyN_ite hin, ← ho]
    refine step h (by unfold opOK; omega) w h1 h2 h3 h4 (by rw [hk]; rfl) (fun j y o hy hoj W => ?_)
    rw [hk] at hy
    match j with
    | 0 => cases hy; cases hoj; exact ih1 W
    | 1 => cases hy; cases hoj; exact ih2 W
    | 2 => cases hy; cases hoj; exact ih3 W
    | j + 3 => simp at hy

end Go.Proofs.YtjapdeehnfoonaaGreatDoor

namespace Go.Proofs.YtjapdeehnfoonaaGreatDoor
open Go.RowKit
set_option linter.unusedVariables false

def shapeI (N : List Nd) (L : List St) : Bool := match runT (N.map Nd.kids) N.length [] 0 with
  | none => false
  | some S => decide (topsI S = L.flatMap askedOf)

theorem row2 {w : World} {b : Nat} {v0 v1 : Value} {t : TypeId} (R : Row w b #[v0, v1] t) : w.cell? ⟨b, 0, none⟩ = some v0 ∧ w.cell? ⟨b, 1, none⟩ = some v1 := ⟨R.cell 0, R.cell 1⟩

theorem runT_len {K : List (List Int)} : ∀ {k : Nat} {S : List (Nat × Nat)}, runT K k [] 0 = some S → S.length ≤ k ∧ k ≤ K.length ∨ k = 0 ∧ S = []
  | 0, S, h => by right; rw [runT] at h; cases h; exact ⟨rfl, rfl⟩
  | k + 1, S, h => by
    left
    rw [runT_add K k 1 [] 0] at h
    cases h1 : runT K k [] 0 with
    | none => rw [h1] at h; cases h
    | some S1 =>
      rw [h1] at h
      change runT K 1 S1 (0 + k) = some S at h
      rw [Nat.zero_add, runT] at h
      cases h2 : K[k]? with
      | none => rw [h2] at h; cases h
      | some ks =>
        rw [h2] at h
        dsimp only at h
        cases h3 : stepT S1 k ks with
        | none => rw [h3] at h; cases h
        | some S2 =>
          rw [h3] at h
          change some S2 = some S at h
          cases h
          have hl := (List.getElem?_eq_some_iff.1 h2).1
          obtain ⟨A, B, e1, _, _, e2⟩ := stepT_of h3
          have ih := runT_len h1
          rw [e2, List.length_append, List.length_singleton]
          rcases ih with ⟨i1, i2⟩ | ⟨i1, i2⟩
          · rw [e1, List.length_append] at i1; omega
          · rw [e1] at i2; have := List.append_eq_nil_iff.1 i2; rw [this.1]; simp; omega

end Go.Proofs.YtjapdeehnfoonaaGreatDoor

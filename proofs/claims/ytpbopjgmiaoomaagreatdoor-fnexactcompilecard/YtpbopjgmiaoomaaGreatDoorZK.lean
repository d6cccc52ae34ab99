/-
  The trees of a policy's statements. Own work.
-/
import Derived.Test.YtpbopjgmiaoomaaGreatDoorZJ
import Derived.Test.YtpbopjgmiaoomaaGreatDoorJN
import Derived.Test.YtpbopjgmiaoomaaGreatDoorMXAF
namespace Go.Proofs.YtpbopjgmiaoomaaGreatDoor
open Go.RowKit
set_option linter.unusedVariables false

/-- a node's tree has one type, and so have its nodes -/
theorem IsT.ty_one {N : List Nd} {i : Nat} {e : Ex} (t : IsT N i e) : ∀ {f : Ex}, IsT N i f → ∀ ts, tyE ts e = tyE ts f ∧ tysE ts e = tysE ts f := by
  induction t with
  | int h ho hk => intro f u ts; rcases u.inv h with ⟨o, r⟩ | ⟨o, r⟩ | ⟨o, r⟩ | ⟨o, r⟩ | ⟨o, r⟩ | ⟨o, r⟩ | ⟨o, r⟩ | ⟨o, r⟩ | ⟨o, r⟩ | ⟨o, r⟩ <;> first | omega | (subst r; exact ⟨rfl, rfl⟩)
  | text h ho hk => intro f u ts; rcases u.inv h with ⟨o, r⟩ | ⟨o, r⟩ | ⟨o, r⟩ | ⟨o, r⟩ | ⟨o, r⟩ | ⟨o, r⟩ | ⟨o, r⟩ | ⟨o, r⟩ | ⟨o, r⟩ | ⟨o, r⟩ <;> first | omega | (subst r; exact ⟨rfl, rfl⟩)
  | bool h ho hk => intro f u ts; rcases u.inv h with ⟨o, r⟩ | ⟨o, r⟩ | ⟨o, r⟩ | ⟨o, r⟩ | ⟨o, r⟩ | ⟨o, r⟩ | ⟨o, r⟩ | ⟨o, r⟩ | ⟨o, r⟩ | ⟨o, r⟩ <;> first | omega | (subst r; exact ⟨rfl, rfl⟩)
  | name h ho hk => intro f u ts; rcases u.inv h with ⟨o, r⟩ | ⟨o, r⟩ | ⟨o, r⟩ | ⟨o, r⟩ | ⟨o, r⟩ | ⟨o, r⟩ | ⟨o, r⟩ | ⟨o, r⟩ | ⟨o, r⟩ | ⟨o, r⟩ <;> first | omega | (subst r; exact ⟨rfl, rfl⟩)
  | attr h ho hk => intro f u ts; rcases u.inv h with ⟨o, r⟩ | ⟨o, r⟩ | ⟨o, r⟩ | ⟨o, r⟩ | ⟨o, r⟩ | ⟨o, r⟩ | ⟨o, r⟩ | ⟨o, r⟩ | ⟨o, r⟩ | ⟨o, r⟩ <;> first | omega | (subst r; exact ⟨rfl, rfl⟩)
  | lett h ho hk => intro f u ts; rcases u.inv h with ⟨o, r⟩ | ⟨o, r⟩ | ⟨o, r⟩ | ⟨o, r⟩ | ⟨o, r⟩ | ⟨o, r⟩ | ⟨o, r⟩ | ⟨o, r⟩ | ⟨o, r⟩ | ⟨o, r⟩ <;> first | omega | (subst r; exact ⟨rfl, rfl⟩)
  | set h ho hk a n c => intro f u ts; rcases u.inv h with ⟨o, r⟩ | ⟨o, r⟩ | ⟨o, r⟩ | ⟨o, r⟩ | ⟨o, r⟩ | ⟨o, r⟩ | ⟨o, r⟩ | ⟨o, r⟩ | ⟨o, r⟩ | ⟨o, r⟩ <;> first | omega | (obtain ⟨_, _, _, r⟩ := r; subst r; exact ⟨rfl, rfl⟩)
  | un h ho hk hi t ih =>
    intro f u ts
    rcases u.inv h with ⟨o, r⟩ | ⟨o, r⟩ | ⟨o, r⟩ | ⟨o, r⟩ | ⟨o, r⟩ | ⟨o, r⟩ | ⟨o, r⟩ | ⟨o, k', e', hk', t', r⟩ | ⟨o, r⟩ | ⟨o, r⟩ <;> first | omega | skip
    subst r
    rw [hk] at hk'
    obtain rfl := Int.ofNat.inj (List.cons.inj hk').1
    obtain ⟨i1, i2⟩ := ih t' ts
    simp only [tysE, tyE, i1, i2, and_self]
  | bin h ho hk hi t u ih1 ih2 =>
    intro f v ts
    rcases v.inv h with ⟨o, r⟩ | ⟨o, r⟩ | ⟨o, r⟩ | ⟨o, r⟩ | ⟨o, r⟩ | ⟨o, r⟩ | ⟨o, r⟩ | ⟨o, r⟩ | ⟨o, k', l', e', g', hk', t', u', r⟩ | ⟨o, r⟩ <;> first | omega | skip
    subst r
    rw [hk] at hk'
    simp only [List.cons.injEq, and_true, Int.natCast_inj] at hk'
    obtain ⟨rfl, rfl⟩ := hk'
    obtain ⟨i1, i2⟩ := ih1 t' ts
    obtain ⟨j1, j2⟩ := ih2 u' ts
    simp only [tysE, tyE, i1, i2, j1, j2, and_self]
  | ite h ho hk hi t u v ih1 ih2 ih3 =>
    intro f z ts
    rcases z.inv h with ⟨o, r⟩ | ⟨o, r⟩ | ⟨o, r⟩ | ⟨o, r⟩ | ⟨o, r⟩ | ⟨o, r⟩ | ⟨o, r⟩ | ⟨o, r⟩ | ⟨o, r⟩ | ⟨o, k', l', m', e', g', h', hk', t', u', v', r⟩ <;> first | omega | skip
    subst r
    rw [hk] at hk'
    simp only [List.cons.injEq, and_true, Int.natCast_inj] at hk'
    obtain ⟨rfl, rfl, rfl⟩ := hk'
    obtain ⟨i1, i2⟩ := ih1 t' ts
    obtain ⟨j1, j2⟩ := ih2 u' ts
    obtain ⟨l1, l2⟩ := ih3 v' ts
    simp only [tysE, tyE, i1, i2, j1, j2, l1, l2, and_self]

/-- the types of trees side by side -/
def allT (ts : List Int) : List Ex → Option (List Int)
  | [] => some []
  | e :: r => (tyE ts e).bind fun _ => (allT ts r).map fun l => tysE ts e ++ l

theorem allO_app (ys : List (Option Int)) : ∀ (xs : List (Option Int)), allO (xs ++ ys) = (allO xs).bind fun k => (allO ys).map (k ++ ·)
  | [] => by cases h : allO ys <;> simp [allO, h]
  | none :: r => rfl
  | some t :: r => by
    rw [List.cons_append, allO, allO, allO_app ys r]
    cases allO r <;> cases allO ys <;> rfl

theorem allO_mem : ∀ {os : List (Option Int)} {K : List Int}, allO os = some K → ∀ o ∈ os, ∃ t, o = some t
  | none :: _, K, h, o, ho => by cases h
  | some t :: r, K, h, o, ho => by
    rw [allO] at h
    obtain ⟨K', h1, _⟩ := Option.map_eq_some_iff.1 h
    rcases List.mem_cons.1 ho with e | e
    · exact ⟨t, e⟩
    · exact allO_mem h1 o e

/-- they are the trees of these nodes -/
def IsTs (N : List Nd) : List Nat → List Ex → Prop
  | [], [] => True
  | q :: qs, e :: es => IsT N q e ∧ IsTs N qs es
  | _, _ => False

theorem IsT.kids {N : List Nd} {i : Nat} {e : Ex} (t : IsT N i e) {x : Nd} (hx : N[i]? = some x) : ∃ qs : List Nat, x.kids = qs.map (fun (q : Nat) => (q : Int)) ∧ IsTs N qs e.kids := by
  have same : ∀ {y : Nd}, N[i]? = some y → y = x := fun k => Option.some.inj (k.symm.trans hx)
  cases t with
  | int h ho hk => obtain rfl := same h; exact ⟨[], hk, trivial⟩
  | text h ho hk => obtain rfl := same h; exact ⟨[], hk, trivial⟩
  | bool h ho hk => obtain rfl := same h; exact ⟨[], hk, trivial⟩
  | set h ho hk a n c => obtain rfl := same h; exact ⟨[], hk, trivial⟩
  | name h ho hk => obtain rfl := same h; exact ⟨[], hk, trivial⟩
  | attr h ho hk => obtain rfl := same h; exact ⟨[], hk, trivial⟩
  | lett h ho hk => obtain rfl := same h; exact ⟨[], hk, trivial⟩
  | @un _ k _ _ h ho hk hi t => obtain rfl := same h; exact ⟨[k], hk, t, trivial⟩
  | @bin _ k l _ _ _ h ho hk hi t u => obtain rfl := same h; exact ⟨[k, l], hk, t, u, trivial⟩
  | @ite _ k l m _ _ _ _ h ho hk hi t u v => obtain rfl := same h; exact ⟨[k, l, m], hk, t, u, v, trivial⟩

theorem ty_kids (ts : List Int) : ∀ (e : Ex), (tyE ts e).map (fun _ => tysE ts e) = (allT ts e.kids).bind fun l => (tyE ts e).map fun t => l ++ [t]
  | .int .. | .text .. | .bool .. | .set .. | .name .. | .attr .. => rfl
  | .lett i n => by
    simp only [Ex.kids, allT, Option.bind_some, tysE, List.nil_append]
    cases tyE ts (.lett i n) <;> rfl
  | .un i op k => by
    simp only [Ex.kids, allT, tysE]
    cases h : tyE ts k with
    | none => simp [tyE, h]
    | some a => cases h2 : tyE ts (.un i op k) <;> simp
  | .bin i op l r => by
    simp only [Ex.kids, allT, tysE]
    cases h : tyE ts l with
    | none => simp [tyE, h]
    | some a => cases h1 : tyE ts r with
      | none => simp [tyE, h, h1]
      | some b => cases h2 : tyE ts (.bin i op l r) <;> simp
  | .ite i c t e => by
    simp only [Ex.kids, allT, tysE]
    cases h : tyE ts c with
    | none => simp [tyE, h]
    | some a => cases h1 : tyE ts t with
      | none => simp [tyE, h, h1]
      | some b => cases h3 : tyE ts e with
        | none => simp [tyE, h, h1, h3]
        | some d => cases h2 : tyE ts (.ite i c t e) <;> simp

theorem forest_ty {N : List Nd} {Es : List Ex} (hEl : Es.length = N.length) (hE : ∀ j, (h : j < Es.length) → IsT N j Es[j]) (ts : List Int) {a b : Nat} {fs : List (Nat × Nat)} (h : Forest (N.map Nd.kids) a fs b) : ∀ (Fs : List Ex), IsTs N (fs.map (fun p => p.1)) Fs → allO ((List.range' a (b - a)).map (nodeTy Es ts)) = allT ts Fs := by
  induction h with
  | nil a =>
    intro Fs hF
    match Fs, hF with
    | [], _ => simp [allO, allT]
  | @cons a t b ks fs hk ht hf i1 i2 =>
    intro Fs hF
    match Fs, hF with
    | e :: Fs, ⟨he, hr⟩ =>
      obtain ⟨x, hx, hxk⟩ : ∃ x, N[t]? = some x ∧ x.kids = topsI ks := by
        rw [List.getElem?_map] at ht
        cases hx : N[t]? with
        | none => rw [hx] at ht; cases ht
        | some x => rw [hx] at ht; exact ⟨x, rfl, Option.some.inj ht⟩
      obtain ⟨qs, hq, hqs⟩ := he.kids hx
      have e1 : ks.map (fun p => p.1) = qs := by
        have := hxk.symm.trans hq
        rw [topsI] at this
        have h2 := congrArg (List.map Int.toNat) this
        simpa [List.map_map, Function.comp_def] using h2
      have j1 := i1 e.kids (by rw [e1]; exact hqs)
      have j2 := i2 Fs hr
      have la := hk.le
      have lb := hf.le
      have er : List.range' a (b - a) = List.range' a (t - a) ++ t :: List.range' (t + 1) (b - (t + 1)) := by
        have e2 : b - a = (t - a) + (1 + (b - (t + 1))) := by omega
        rw [e2, ← List.range'_append_1, ← List.range'_append_1]
        have e3 : a + (t - a) = t := by omega
        rw [e3]
        rfl
      have hte : t < Es.length := by rw [hEl]; exact he.lt
      have en : nodeTy Es ts t = tyE ts e := by
        rw [nodeTy, List.getElem?_eq_getElem hte]
        exact ((hE t hte).ty_one he ts).1
      have K := ty_kids ts e
      rw [er, List.map_append, List.map_cons, allO_app, j1, en]
      simp only [allT]
      cases ho : tyE ts e with
      | none => cases allT ts e.kids <;> rfl
      | some o =>
        rw [ho] at K
        cases ha : allT ts e.kids with
        | none => rw [ha] at K; cases K
        | some l =>
          rw [ha] at K
          have y : tysE ts e = l ++ [o] := Option.some.inj K
          rw [y, allO, j2]
          cases allT ts Fs <;> simp

theorem forest_sum {N : List Nd} {Es : List Ex} (hEl : Es.length = N.length) (hE : ∀ j, (h : j < Es.length) → IsT N j Es[j]) {a b : Nat} {S : List (Nat × Nat)} (hF : Forest (N.map Nd.kids) a S b) (hb : b ≤ N.length) : a + ((topsI S).map (cntP Es)).sum = b := by
  have hlt : ∀ q ∈ S, q.1 < Es.length := fun q hq => by have := (hF.lt q hq).2; omega
  have key := forest_cnt hF (S.attach.map (fun q => Es[q.1.1]'(hlt q.1 q.2))) (by simp) (fun j h1 h2 => by
    have := hE (S[j]).1 (hlt _ (List.getElem_mem h1))
    simpa using this)
  have e2 : (topsI S).map (cntP Es) = (S.attach.map (fun q => Es[q.1.1]'(hlt q.1 q.2))).map Ex.cnt := by
    apply List.ext_getElem
    · simp [topsI]
    · intro j h1 h2
      have hj : j < S.length := by simpa [topsI] using h1
      have hq := hlt S[j] (List.getElem_mem hj)
      simp only [topsI, List.getElem_map, List.getElem_attach]
      exact cntP_at rfl (List.getElem?_eq_getElem hq)
  rw [e2]
  exact key

theorem forest_at {N : List Nd} {Es : List Ex} (hEl : Es.length = N.length) (hE : ∀ j, (h : j < Es.length) → IsT N j Es[j]) {S : List (Nat × Nat)} (hF : Forest (N.map Nd.kids) 0 S N.length) {pre post : List Int} {x : Int} (h : topsI S = pre ++ x :: post) : treeAt Es ((pre.map (cntP Es)).sum) x := by
  rw [topsI] at h
  obtain ⟨S1, S2, rfl, h1, h2⟩ := List.map_eq_append_iff.1 h
  obtain ⟨p, S3, rfl, h3, h4⟩ := List.map_eq_cons_iff.1 h2
  obtain ⟨c, F1, F2⟩ := hF.split
  have hc := forest_sum hEl hE F1 (by have := F2.le; omega)
  have hp := (F2.lt p (List.mem_cons_self ..)).2
  have e1 : c = (pre.map (cntP Es)).sum := by rw [← h1]; rw [topsI] at hc; omega
  have hpl : p.1 < Es.length := by omega
  have F3 : Forest (N.map Nd.kids) c [p] (p.1 + 1) := by
    cases F2 with
    | cons hk ht hf => exact .cons hk ht (.nil _)
  have k1 := forest_sum hEl hE F3 (by omega)
  have k2 : cntP Es (p.1 : Nat) = Es[p.1].cnt := cntP_at rfl (List.getElem?_eq_getElem hpl)
  have k3 : c + Es[p.1].cnt = p.1 + 1 := by
    simp only [topsI, List.map_cons, List.map_nil, List.sum_cons, List.sum_nil] at k1
    omega
  rw [← e1]
  refine .inr ⟨p.1, Es[p.1], h3.symm, List.getElem?_eq_getElem hpl, k3, fun ts => ?_⟩
  have k4 := forest_ty hEl hE ts F3 [Es[p.1]] ⟨hE p.1 hpl, trivial⟩
  rw [show p.1 + 1 - c = Es[p.1].cnt by omega] at k4
  rw [k4, allT, allT]
  cases tyE ts Es[p.1] <;> simp

theorem wellT_forest {N : List Nd} {L : List St} (h : wellT N L = true) : ∃ S, Forest (N.map Nd.kids) 0 S N.length ∧ topsI S = L.flatMap askedOf := by
  simp only [wellT, Bool.and_eq_true, decide_eq_true_eq] at h
  obtain ⟨⟨⟨h1, ⟨h2, h3⟩, h4⟩, h5⟩, h6⟩ := h
  obtain ⟨S, hr, ht⟩ : ∃ S, runT (N.map Nd.kids) N.length [] 0 = some S ∧ topsI S = L.flatMap askedOf := by
    rw [shapeI] at h6
    cases hq : runT (N.map Nd.kids) N.length [] 0 with
    | none => rw [hq] at h6; cases h6
    | some S => rw [hq] at h6; exact ⟨S, rfl, of_decide_eq_true h6⟩
  obtain ⟨hF, _⟩ := forest_runT N.length (.nil 0) (fun p hp => (by cases hp)) hr
  rw [Nat.zero_add] at hF
  exact ⟨S, hF, ht⟩

theorem asked_sum {N : List Nd} {L : List St} (W : WellPT N L) (Es : List Ex) : ∀ s ∈ L, cntP Es s.cond + cntP Es s.grant = ((askedOf s).map (cntP Es)).sum := fun s hs => by
  have gr : cntP Es s.grant = ((if s.grant ≠ -1 then [s.grant] else []).map (cntP Es)).sum := by
    by_cases g : s.grant = -1
    · rw [if_neg (fun k => k g), g]; rfl
    · rw [if_pos g]; simp
  rw [askedOf, List.map_append, List.sum_append, ← gr]
  congr 1
  by_cases k3 : s.kind = 3
  · rw [if_neg (fun k => k k3)]
    rcases W.stm s hs with q | q | q
    · omega
    · omega
    · rw [q.2]; rfl
  · rw [if_pos k3]; simp

theorem cntL_all {N : List Nd} {L : List St} (h : wellT N L = true) {Es : List Ex} (hEl : Es.length = N.length) (hE : ∀ j, (h : j < Es.length) → IsT N j Es[j]) : cntL Es L = N.length := by
  obtain ⟨S, hF, ht⟩ := wellT_forest h
  have h1 := forest_sum hEl hE hF (Nat.le_refl _)
  rw [cntL_asked Es L (asked_sum (wellPT_of h) Es), ← ht]
  omega

/-- each statement's trees stand behind those of the ones ahead -/
def spansOf (Es : List Ex) (L : List St) : Prop := ∀ k, (h : k < L.length) → treeAt Es (cntL Es (L.take k)) L[k].cond ∧ treeAt Es (cntL Es (L.take k) + cntP Es L[k].cond) L[k].grant

theorem spans_of {N : List Nd} {L : List St} (h : wellT N L = true) {Es : List Ex} (hEl : Es.length = N.length) (hE : ∀ j, (h : j < Es.length) → IsT N j Es[j]) : spansOf Es L := fun k hk => by
  obtain ⟨S, hF, ht⟩ := wellT_forest h
  have W := wellPT_of h
  have eL : L = L.take k ++ L[k] :: L.drop (k + 1) := by rw [List.getElem_cons_drop, List.take_append_drop]
  have e1 : cntL Es (L.take k) = (((L.take k).flatMap askedOf).map (cntP Es)).sum := cntL_asked Es _ (fun s hs => asked_sum W Es s (List.mem_of_mem_take hs))
  have e2 : topsI S = (L.take k).flatMap askedOf ++ (askedOf L[k] ++ (L.drop (k + 1)).flatMap askedOf) := by
    rw [ht]
    conv => lhs; rw [eL]
    rw [List.flatMap_append, List.flatMap_cons]
  have hs := List.getElem_mem hk
  generalize L[k] = s at e2 hs ⊢
  have kc : s.cond = -1 ∨ s.kind ≠ 3 := by
    rcases W.stm s hs with q | q | q
    · right; omega
    · right; omega
    · exact .inl q.2
  rw [e1]
  refine ⟨?_, ?_⟩
  · rcases kc with q | q
    · exact .inl q
    · rw [askedOf, if_pos q] at e2
      exact forest_at hEl hE hF e2
  · by_cases g : s.grant = -1
    · exact .inl g
    · have q2 : askedOf s = (if s.kind ≠ 3 then [s.cond] else []) ++ [s.grant] := by rw [askedOf, if_pos g]
      have e3 : topsI S = ((L.take k).flatMap askedOf ++ (if s.kind ≠ 3 then [s.cond] else [])) ++ s.grant :: (L.drop (k + 1)).flatMap askedOf := by
        rw [e2, q2]; simp
      have r := forest_at hEl hE hF e3
      have e4 : (((L.take k).flatMap askedOf ++ (if s.kind ≠ 3 then [s.cond] else [])).map (cntP Es)).sum = (((L.take k).flatMap askedOf).map (cntP Es)).sum + cntP Es s.cond := by
        rw [List.map_append, List.sum_append]
        congr 1
        by_cases k3 : s.kind = 3
        · rw [if_neg (fun k => k k3)]
          rcases kc with q | q
          · rw [q]; rfl
          · exact absurd k3 q
        · rw [if_pos k3]; simp
      rw [e4] at r
      exact r

theorem ckE_none (kd : Int) (nm : ByteArray) (st : CkS) (ys : List Int) : ckE kd nm st none ys = none := by
  unfold ckE
  split <;> rfl

theorem cond_some {Es : List Ex} {st s2 : CkS} {s : St} {m : Nat} {e : Ex} (h : ckCond Es st s = some s2) (h1 : s.cond = (m : Nat)) (h2 : Es[m]? = some e) : ∃ t, tyE st.2.1 e = some t := by
  rw [ckCond, if_neg (by omega), h1, Int.toNat_natCast, h2] at h
  cases ht : tyE st.2.1 e with
  | none => dsimp only at h; rw [ht, ckE_none] at h; cases h
  | some t => exact ⟨t, rfl⟩

theorem grant_some {Es : List Ex} {st s2 : CkS} {s : St} {m : Nat} {e : Ex} (h : ckGrant Es st s = some s2) (h1 : s.grant = (m : Nat)) (h2 : Es[m]? = some e) : ∃ t, tyE st.2.1 e = some t := by
  rw [ckGrant, if_neg (by omega), h1, Int.toNat_natCast, h2] at h
  cases ht : tyE st.2.1 e with
  | none => dsimp only at h; rw [ht] at h; cases h
  | some t => exact ⟨t, rfl⟩

theorem span_ty {Es : List Ex} {c : Nat} {e : Ex} (h : spanOK Es c e) {ts : List Int} {t : Int} (ht : tyE ts e = some t) (j : Nat) (h1 : c ≤ j) (h2 : j < c + e.cnt) : ∃ t, nodeTy Es ts j = some t := by
  have k := h ts
  rw [ht] at k
  exact allO_mem k _ (List.mem_map.2 ⟨j, List.mem_range'_1.2 ⟨h1, h2⟩, rfl⟩)

theorem nodes_typed {Es : List Ex} {L : List St} {st : CkS} (hs : spansOf Es L) (hl : L.length ≤ 600) (h : ckAll Es (attN, [], []) L = some st) : ∀ k, k ≤ L.length → ∀ j, j < cntL Es (L.take k) → ∃ ts t, ts.length ≤ 600 ∧ nodeTy Es ts j = some t
  | 0, _, j, hj => by simp [cntL] at hj
  | k + 1, hk, j, hj => by
    have hkl : k < L.length := by omega
    obtain ⟨h1, h2⟩ := hs k hkl
    have e1 : cntL Es (L.take (k + 1)) = cntL Es (L.take k) + (cntP Es L[k].cond + cntP Es L[k].grant) := by
      rw [List.take_succ_eq_append_getElem hkl]
      simp only [cntL, List.map_append, List.map_cons, List.map_nil, List.sum_append, List.sum_cons, List.sum_nil, Nat.add_zero]
    by_cases hj0 : j < cntL Es (L.take k)
    · exact nodes_typed hs hl h k (by omega) j hj0
    have hq : ckAll Es (attN, [], []) (L.take (k + 1)) ≠ none := fun e => by
      have := ckAll_none Es L _ _ e
      rw [h] at this; cases this
    rw [List.take_succ_eq_append_getElem hkl, ckAll_snoc] at hq
    cases ha : ckAll Es (attN, [], []) (L.take k) with
    | none => rw [ha] at hq; exact absurd rfl hq
    | some s1 =>
      have hl1 := (ckAll_len ha).2.1
      rw [List.length_take] at hl1
      have hl2 : s1.2.1.length ≤ k := by simp at hl1; omega
      rw [ha] at hq
      cases hc : ckCond Es s1 L[k] with
      | none => rw [Option.bind_some, ckStep, hc] at hq; exact absurd rfl hq
      | some s2 =>
        have hl3 := (ckCond_len hc).2.1
        cases hg : ckGrant Es s2 L[k] with
        | none => rw [Option.bind_some, ckStep, hc, Option.bind_some, hg] at hq; exact absurd rfl hq
        | some s3 =>
          by_cases hjc : j < cntL Es (L.take k) + cntP Es L[k].cond
          · rcases h1 with q | ⟨m, e, q1, q2, q3, q4⟩
            · rw [q] at hjc
              have : cntP Es (-1) = 0 := rfl
              omega
            · rw [cntP_at q1 q2] at hjc
              obtain ⟨t, ht⟩ := cond_some hc q1 q2
              obtain ⟨t2, r⟩ := span_ty q4 ht j (by omega) hjc
              exact ⟨_, t2, by omega, r⟩
          · rcases h2 with q | ⟨m, e, q1, q2, q3, q4⟩
            · rw [e1, q] at hj
              have : cntP Es (-1) = 0 := rfl
              omega
            · rw [e1, cntP_at q1 q2] at hj
              obtain ⟨t, ht⟩ := grant_some hg q1 q2
              obtain ⟨t2, r⟩ := span_ty q4 ht j (by omega) (by omega)
              exact ⟨_, t2, by omega, r⟩

/-- where all is typed, each let's number is in its range -/
theorem allU_of {N : List Nd} {L : List St} (h : wellT N L = true) {Es : List Ex} (hEl : Es.length = N.length) (hE : ∀ j, (h : j < Es.length) → IsT N j Es[j]) {st : CkS} (hc : ckAll Es (attN, [], []) L = some st) : N.all fieldsU = true := by
  have W := wellPT_of h
  rw [List.all_eq_true]
  intro x hx
  refine (fieldsU_iff x).2 ⟨W.fields x hx, fun h7 => ?_⟩
  obtain ⟨j, hj, rfl⟩ := List.getElem_of_mem hx
  obtain ⟨ts, t, h1, h2⟩ := nodes_typed (spans_of h hEl hE) W.m hc L.length (Nat.le_refl _) j (by rw [List.take_length, cntL_all h hEl hE]; exact hj)
  have hje : j < Es.length := by omega
  rw [nodeTy, List.getElem?_eq_getElem hje, Option.bind_some] at h2
  have u := hE j hje
  rcases u.inv (List.getElem?_eq_getElem hj) with ⟨o, r⟩ | ⟨o, r⟩ | ⟨o, r⟩ | ⟨o, r⟩ | ⟨o, r⟩ | ⟨o, r⟩ | ⟨o, r⟩ | ⟨o, r⟩ | ⟨o, r⟩ | ⟨o, r⟩ <;> first | omega | skip
  rw [r, tyE] at h2
  split at h2
  · rename_i h0
    have := (List.getElem?_eq_some_iff.1 h2).1
    omega
  · cases h2

theorem ckAll_one {N : List Nd} {Es Fs : List Ex} (h1 : Es.length = N.length) (h2 : Fs.length = N.length) (hE : ∀ j, (h : j < Es.length) → IsT N j Es[j]) (hF : ∀ j, (h : j < Fs.length) → IsT N j Fs[j]) : ∀ (L : List St) (st : CkS), ckAll Es st L = ckAll Fs st L
  | [], st => rfl
  | s :: L, st => by
    have key : ∀ k : Nat, (Es[k]? = none ∧ Fs[k]? = none) ∨ ∃ e f, Es[k]? = some e ∧ Fs[k]? = some f ∧ ∀ ts, tyE ts e = tyE ts f ∧ tysE ts e = tysE ts f := fun k => by
      by_cases hk : k < N.length
      · exact .inr ⟨Es[k], Fs[k], List.getElem?_eq_getElem _, List.getElem?_eq_getElem _, (hE k (by omega)).ty_one (hF k (by omega))⟩
      · exact .inl ⟨List.getElem?_eq_none (by omega), List.getElem?_eq_none (by omega)⟩
    have c : ckCond Es st s = ckCond Fs st s := by
      rw [ckCond, ckCond]
      rcases key s.cond.toNat with ⟨a, b⟩ | ⟨e, f, a, b, k⟩
      · rw [a, b]
      · rw [a, b]; dsimp only; rw [(k st.2.1).1, (k st.2.1).2]
    have g : ∀ st1, ckGrant Es st1 s = ckGrant Fs st1 s := fun st1 => by
      rw [ckGrant, ckGrant]
      rcases key s.grant.toNat with ⟨a, b⟩ | ⟨e, f, a, b, k⟩
      · rw [a, b]
      · rw [a, b]; dsimp only; rw [(k st1.2.1).1, (k st1.2.1).2]
    rw [ckAll, ckAll, ckStep, ckStep, c]
    simp only [g, ckAll_one h1 h2 hE hF L]

end Go.Proofs.YtpbopjgmiaoomaaGreatDoor

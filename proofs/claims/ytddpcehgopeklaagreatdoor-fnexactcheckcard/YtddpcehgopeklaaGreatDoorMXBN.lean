/-
  EDE, EDF. Own work.
-/
import Derived.Test.YtddpcehgopeklaaGreatDoorMXBB
import Derived.Test.YtddpcehgopeklaaGreatDoorMXAH
import Derived.Test.YtddpcehgopeklaaGreatDoorMXBA
namespace Go.Proofs.YtddpcehgopeklaaGreatDoor
open Go.RowKit
set_option linter.unusedVariables false

/-- the types of a tree's nodes, or its fault -/
def tryX (D : List Dc) (e : Ex) : Except (Int × Int) (List Int) := match tyX D e with
  | .ok _ => .ok (tysX D e)
  | .error f => .error f

/-- a node's tree has one type, and so have its nodes -/
theorem IsT.ty_oneX {N : List Nd} {i : Nat} {e : Ex} (t : IsT N i e) : ∀ {f : Ex}, IsT N i f → ∀ ts : List Dc, tyX ts e = tyX ts f ∧ tysX ts e = tysX ts f := by
  induction t with
  | int h ho hk => intro f u ts; rcases u.inv h with ⟨o, r⟩ | ⟨o, r⟩ | ⟨o, r⟩ | ⟨o, r⟩ | ⟨o, r⟩ | ⟨o, r⟩ | ⟨o, r⟩ | ⟨o, r⟩ | ⟨o, r⟩ | ⟨o, r⟩ <;> first | omega | (subst r; exact ⟨rfl, rfl⟩)
  | text h ho hk => intro f u ts; rcases u.inv h with ⟨o, r⟩ | ⟨o, r⟩ | ⟨o, r⟩ | ⟨o, r⟩ | ⟨o, r⟩ | ⟨o, r⟩ | ⟨o, r⟩ | ⟨o, r⟩ | ⟨o, r⟩ | ⟨o, r⟩ <;> first | omega | (subst r; exact ⟨rfl, rfl⟩)
  | bool h ho hk => intro f u ts; rcases u.inv h with ⟨o, r⟩ | ⟨o, r⟩ | ⟨o, r⟩ | ⟨o, r⟩ | ⟨o, r⟩ | ⟨o, r⟩ | ⟨o, r⟩ | ⟨o, r⟩ | ⟨o, r⟩ | ⟨o, r⟩ <;> first | omega | (subst r; exact ⟨rfl, rfl⟩)
  | name h ho hk => intro f u ts; rcases u.inv h with ⟨o, r⟩ | ⟨o, r⟩ | ⟨o, r⟩ | ⟨o, r⟩ | ⟨o, r⟩ | ⟨o, r⟩ | ⟨o, r⟩ | ⟨o, r⟩ | ⟨o, r⟩ | ⟨o, r⟩ <;> first | omega | (subst r; exact ⟨rfl, rfl⟩)
  | attr h ho hk => intro f u ts; rcases u.inv h with ⟨o, r⟩ | ⟨o, r⟩ | ⟨o, r⟩ | ⟨o, r⟩ | ⟨o, r⟩ | ⟨o, r⟩ | ⟨o, r⟩ | ⟨o, r⟩ | ⟨o, r⟩ | ⟨o, r⟩ <;> first | omega | (subst r; exact ⟨rfl, rfl⟩)
  | lett h ho hk => intro f u ts; rcases u.inv h with ⟨o, r⟩ | ⟨o, r⟩ | ⟨o, r⟩ | ⟨o, r⟩ | ⟨o, r⟩ | ⟨o, r⟩ | ⟨o, r⟩ | ⟨o, r⟩ | ⟨o, r⟩ | ⟨o, r⟩ <;> first | omega | (subst r; exact ⟨rfl, rfl⟩)
  | set h ho hk a n c => intro f u ts; rcases u.inv h with ⟨o, r⟩ | ⟨o, r⟩ | ⟨o, r⟩ | ⟨o, r⟩ | ⟨o, r⟩ | ⟨o, r⟩ | ⟨o, r⟩ | ⟨o, r⟩ | ⟨o, r⟩ | ⟨o, r⟩ <;> first | omega | (obtain ⟨_, _, _, r⟩ := r; subst r; exact ⟨rfl, rfl⟩)
  | un h ho hk hi t ih =>
    intro f u ts
    rcases u.inv h with ⟨o, r⟩ | ⟨o, r⟩ | ⟨o, r⟩ | ⟨o, r⟩ | ⟨o, r⟩ | ⟨o, r⟩ | ⟨o, r⟩ | ⟨o, k', e', hk', t', r⟩ | ⟨o, r⟩ | ⟨o, r⟩ <;> first | omega | skip
    subst r
    rw [hk] at hk'
    obtain rfl := Int.ofNat.inj (List.cons.inj hk').1
    obtain ⟨i1, i2⟩ := ih t' ts
    simp only [tysX, tyX, i1, i2, and_self]
  | bin h ho hk hi t u ih1 ih2 =>
    intro f v ts
    rcases v.inv h with ⟨o, r⟩ | ⟨o, r⟩ | ⟨o, r⟩ | ⟨o, r⟩ | ⟨o, r⟩ | ⟨o, r⟩ | ⟨o, r⟩ | ⟨o, r⟩ | ⟨o, k', l', e', g', hk', t', u', r⟩ | ⟨o, r⟩ <;> first | omega | skip
    subst r
    rw [hk] at hk'
    simp only [List.cons.injEq, and_true, Int.natCast_inj] at hk'
    obtain ⟨rfl, rfl⟩ := hk'
    obtain ⟨i1, i2⟩ := ih1 t' ts
    obtain ⟨j1, j2⟩ := ih2 u' ts
    simp only [tysX, tyX, i1, i2, j1, j2, and_self]
  | ite h ho hk hi t u v ih1 ih2 ih3 =>
    intro f z ts
    rcases z.inv h with ⟨o, r⟩ | ⟨o, r⟩ | ⟨o, r⟩ | ⟨o, r⟩ | ⟨o, r⟩ | ⟨o, r⟩ | ⟨o, r⟩ | ⟨o, r⟩ | ⟨o, r⟩ | ⟨o, k', l', m', e', g', h', hk', t', u', v', r⟩ <;> first | omega | skip
    subst r
    rw [hk] at hk'
    simp only [List.cons.injEq, and_true, Int.natCast_inj] at hk'
    obtain ⟨rfl, rfl, rfl⟩ := hk'
    obtain ⟨i1, i2⟩ := ih1 t' ts
    obtain ⟨j1, j2⟩ := ih2 u' ts
    obtain ⟨l1, l2⟩ := ih3 v' ts
    simp only [tysX, tyX, i1, i2, j1, j2, l1, l2, and_self]

/-- the types of trees side by side -/
def allTX (D : List Dc) : List Ex → Except (Int × Int) (List Int)
  | [] => .ok []
  | e :: r => (tryX D e).bind fun k => (allTX D r).map fun l => k ++ l

/-- they are the trees of these nodes -/
def IsTsX (N : List Nd) : List Nat → List Ex → Prop
  | [], [] => True
  | q :: qs, e :: es => IsT N q e ∧ IsTsX N qs es
  | _, _ => False

theorem IsT.kidsX {N : List Nd} {i : Nat} {e : Ex} (t : IsT N i e) {x : Nd} (hx : N[i]? = some x) : ∃ qs : List Nat, x.kids = qs.map (fun (q : Nat) => (q : Int)) ∧ IsTsX N qs e.kids := by
  have same : ∀ {y : Nd}, N[i]? = some y → y = x := fun k => Option.some.inj (k.symm.trans hx)
  cases t with
  | int h ho hk => obtain rfl := same h; exact ⟨[], hk, trivial⟩
  | text h ho hk => obtain rfl := same h; exact ⟨[], hk, trivial⟩
  | bool h ho hk => obtain rfl := same h; exact ⟨[], hk, trivial⟩
  | set h ho hk a n c => obtain rfl := same h; exact ⟨[], hk, trivial⟩
  | name h ho hk => obtain rfl := same h; exact ⟨[], hk, trivial⟩
  | attr h ho hk => obtain rfl := same h; exact ⟨[], hk, trivial⟩
  | lett h ho hk => obtain rfl := same h; exact ⟨[], hk, trivial⟩
  | @un _ k _ _ h ho hk hi t => obtain rfl := same h; exact ⟨[k], hk, t, trivial⟩
  | @bin _ k l _ _ _ h ho hk hi t u => obtain rfl := same h; exact ⟨[k, l], hk, t, u, trivial⟩
  | @ite _ k l m _ _ _ _ h ho hk hi t u v => obtain rfl := same h; exact ⟨[k, l, m], hk, t, u, v, trivial⟩

theorem ty_kidsX (D : List Dc) : ∀ (e : Ex), tryX D e = (allTX D e.kids).bind fun l => match tyX D e with
    | .ok t => .ok (l ++ [t])
    | .error f => .error f
  | .int .. | .text .. | .bool .. | .set .. | .attr .. | .lett .. => rfl
  | .name i s => by
    simp only [Ex.kids, allTX, tryX, tysX]
    cases h : tyX D (.name i s) <;> rfl
  | .un i op k => by
    cases h : tyX D k with
    | error f => simp [Ex.kids, allTX, tryX, tyX, h, Except.bind]
    | ok a =>
      simp only [Ex.kids, allTX, tryX, tysX, h]
      cases h2 : tyX D (.un i op k) <;> simp [Except.bind, Except.map, gX]
  | .bin i op l r => by
    cases h : tyX D l with
    | error f => simp [Ex.kids, allTX, tryX, tyX, h, Except.bind]
    | ok a =>
      cases h1 : tyX D r with
      | error f => simp [Ex.kids, allTX, tryX, tyX, h, h1, Except.bind, Except.map]
      | ok b =>
        simp only [Ex.kids, allTX, tryX, tysX, h, h1]
        cases h2 : tyX D (.bin i op l r) <;> simp [Except.bind, Except.map, gX]
  | .ite i c t e => by
    cases h : tyX D c with
    | error f => simp [Ex.kids, allTX, tryX, tyX, h, Except.bind]
    | ok a =>
      cases h1 : tyX D t with
      | error f => simp [Ex.kids, allTX, tryX, tyX, h, h1, Except.bind, Except.map]
      | ok b =>
        cases h3 : tyX D e with
        | error f => simp [Ex.kids, allTX, tryX, tyX, h, h1, h3, Except.bind, Except.map]
        | ok d =>
          simp only [Ex.kids, allTX, tryX, tysX, h, h1, h3]
          cases h2 : tyX D (.ite i c t e) <;> simp [Except.bind, Except.map, gX]

theorem IsT.pos {N : List Nd} {i : Nat} {e : Ex} (t : IsT N i e) : e.pos = i := by
  cases t <;> rfl

/-- where the kids are right, a fault is the node's own -/
theorem own_fault (D : List Dc) : ∀ (e : Ex) {l : List Int} {f : Int × Int}, allTX D e.kids = .ok l → tyX D e = .error f → f.2 = e.pos
  | .int .., _, _, _, h => by cases h
  | .text .., _, _, _, h => by cases h
  | .bool .., _, _, _, h => by cases h
  | .set .., _, _, _, h => by cases h
  | .name i s, _, _, _, h => by rw [ofO_code h]; rfl
  | .attr .., _, _, _, h => by cases h; rfl
  | .lett .., _, _, _, h => by cases h; rfl
  | .un i op k, l, f, hk, h => by
    simp only [Ex.kids, allTX, tryX] at hk
    rw [tyX] at h
    cases h1 : tyX D k with
    | error g => rw [h1] at hk; cases hk
    | ok a => rw [h1] at h; rw [ofO_code h]; rfl
  | .bin i op k m, l, f, hk, h => by
    simp only [Ex.kids, allTX, tryX] at hk
    rw [tyX] at h
    cases h1 : tyX D k with
    | error g => rw [h1] at hk; cases hk
    | ok a =>
      rw [h1] at h hk
      cases h2 : tyX D m with
      | error g => rw [h2] at hk; cases hk
      | ok b => rw [h2] at h; rw [ofO_code h]; rfl
  | .ite i k m n, l, f, hk, h => by
    simp only [Ex.kids, allTX, tryX] at hk
    rw [tyX] at h
    cases h1 : tyX D k with
    | error g => rw [h1] at hk; cases hk
    | ok a =>
      rw [h1] at h hk
      cases h2 : tyX D m with
      | error g => rw [h2] at hk; cases hk
      | ok b =>
        rw [h2] at h hk
        cases h3 : tyX D n with
        | error g => rw [h3] at hk; cases hk
        | ok d => rw [h3] at h; rw [ofO_code h]; rfl

theorem forest_tyX {N : List Nd} {Es : List Ex} (hEl : Es.length = N.length) (hE : ∀ j, (h : j < Es.length) → IsT N j Es[j]) (ts : List Dc) {a b : Nat} {fs : List (Nat × Nat)} (h : Forest (N.map Nd.kids) a fs b) : ∀ (Fs : List Ex), IsTsX N (fs.map (fun p => p.1)) Fs → frst a ((List.range' a (b - a)).map (nodeX Es ts)) = allTX ts Fs := by
  induction h with
  | nil a =>
    intro Fs hF
    match Fs, hF with
    | [], _ => simp [frst, allTX]
  | @cons a t b ks fs hk ht hf i1 i2 =>
    intro Fs hF
    match Fs, hF with
    | e :: Fs, ⟨he, hr⟩ =>
      obtain ⟨x, hx, hxk⟩ : ∃ x, N[t]? = some x ∧ x.kids = topsI ks := by
        rw [List.getElem?_map] at ht
        cases hx : N[t]? with
        | none => rw [hx] at ht; cases ht
        | some x => rw [hx] at ht; exact ⟨x, rfl, Option.some.inj ht⟩
      obtain ⟨qs, hq, hqs⟩ := he.kidsX hx
      have e1 : ks.map (fun p => p.1) = qs := by
        have := hxk.symm.trans hq
        rw [topsI] at this
        have h2 := congrArg (List.map Int.toNat) this
        simpa [List.map_map, Function.comp_def] using h2
      have j1 := i1 e.kids (by rw [e1]; exact hqs)
      have j2 := i2 Fs hr
      have la := hk.le
      have lb := hf.le
      have er : List.range' a (b - a) = List.range' a (t - a) ++ t :: List.range' (t + 1) (b - (t + 1)) := by
        have e2 : b - a = (t - a) + (1 + (b - (t + 1))) := by omega
        rw [e2, ← List.range'_append_1, ← List.range'_append_1]
        have e3 : a + (t - a) = t := by omega
        rw [e3]
        rfl
      have hte : t < Es.length := by rw [hEl]; exact he.lt
      have en : nodeX Es ts t = cR (tyX ts e) := by
        rw [nodeX, List.getElem?_eq_getElem hte]
        exact congrArg cR ((hE t hte).ty_oneX he ts).1
      have K := ty_kidsX ts e
      have ela : a + (List.map (nodeX Es ts) (List.range' a (t - a))).length = t := by simp; omega
      rw [er, List.map_append, List.map_cons, frst_app, j1, en, ela]
      simp only [allTX]
      rw [K]
      cases ha : allTX ts e.kids with
      | error f => rfl
      | ok l =>
        cases ho : tyX ts e with
        | error f =>
          have hp := own_fault ts e ha ho
          rw [he.pos] at hp
          show (Except.error (f.1, (t : Int)) : Except (Int × Int) (List Int)) = .error f
          rw [← hp]
        | ok o =>
          show (Except.map (l ++ ·) ((frst (t + 1) ((List.range' (t + 1) (b - (t + 1))).map (nodeX Es ts))).map (o :: ·))) = (allTX ts Fs).map fun k => (l ++ [o]) ++ k
          rw [j2]
          cases allTX ts Fs <;> simp [Except.map]

theorem forest_sumX {N : List Nd} {Es : List Ex} (hEl : Es.length = N.length) (hE : ∀ j, (h : j < Es.length) → IsT N j Es[j]) {a b : Nat} {S : List (Nat × Nat)} (hF : Forest (N.map Nd.kids) a S b) (hb : b ≤ N.length) : a + ((topsI S).map (cntP Es)).sum = b := by
  have hlt : ∀ q ∈ S, q.1 < Es.length := fun q hq => by have := (hF.lt q hq).2; omega
  have key := forest_cnt hF (S.attach.map (fun q => Es[q.1.1]'(hlt q.1 q.2))) (by simp) (fun j h1 h2 => by
    have := hE (S[j]).1 (hlt _ (List.getElem_mem h1))
    simpa using this)
  have e2 : (topsI S).map (cntP Es) = (S.attach.map (fun q => Es[q.1.1]'(hlt q.1 q.2))).map Ex.cnt := by
    apply List.ext_getElem
    · simp [topsI]
    · intro j h1 h2
      have hj : j < S.length := by simpa [topsI] using h1
      have hq := hlt S[j] (List.getElem_mem hj)
      simp only [topsI, List.getElem_map, List.getElem_attach]
      exact cntP_at rfl (List.getElem?_eq_getElem hq)
  rw [e2]
  exact key

/-- the nodes from a place on are those of a tree -/
def spanX (Es : List Ex) (f : Nat) (e : Ex) : Prop := ∀ D, frst f ((List.range' f e.cnt).map (nodeX Es D)) = tryX D e

def treeAtX (Es : List Ex) (c : Nat) (k : Int) : Prop := k = -1 ∨ ∃ (mm : Nat) (e : Ex), k = mm ∧ Es[mm]? = some e ∧ c + e.cnt = mm + 1 ∧ spanX Es c e

theorem forest_atX {N : List Nd} {Es : List Ex} (hEl : Es.length = N.length) (hE : ∀ j, (h : j < Es.length) → IsT N j Es[j]) {S : List (Nat × Nat)} (hF : Forest (N.map Nd.kids) 0 S N.length) {pre post : List Int} {x : Int} (h : topsI S = pre ++ x :: post) : treeAtX Es ((pre.map (cntP Es)).sum) x := by
  rw [topsI] at h
  obtain ⟨S1, S2, rfl, h1, h2⟩ := List.map_eq_append_iff.1 h
  obtain ⟨p, S3, rfl, h3, h4⟩ := List.map_eq_cons_iff.1 h2
  obtain ⟨c, F1, F2⟩ := hF.split
  have hc := forest_sumX hEl hE F1 (by have := F2.le; omega)
  have hp := (F2.lt p (List.mem_cons_self ..)).2
  have e1 : c = (pre.map (cntP Es)).sum := by rw [← h1]; rw [topsI] at hc; omega
  have hpl : p.1 < Es.length := by omega
  have F3 : Forest (N.map Nd.kids) c [p] (p.1 + 1) := by
    cases F2 with
    | cons hk ht hf => exact .cons hk ht (.nil _)
  have k1 := forest_sumX hEl hE F3 (by omega)
  have k2 : cntP Es (p.1 : Nat) = Es[p.1].cnt := cntP_at rfl (List.getElem?_eq_getElem hpl)
  have k3 : c + Es[p.1].cnt = p.1 + 1 := by
    simp only [topsI, List.map_cons, List.map_nil, List.sum_cons, List.sum_nil] at k1
    omega
  rw [← e1]
  refine .inr ⟨p.1, Es[p.1], h3.symm, List.getElem?_eq_getElem hpl, k3, fun ts => ?_⟩
  have k4 := forest_tyX hEl hE ts F3 [Es[p.1]] ⟨hE p.1 hpl, trivial⟩
  rw [show p.1 + 1 - c = Es[p.1].cnt by omega] at k4
  rw [k4, allTX, allTX]
  cases tryX ts Es[p.1] <;> simp [Except.bind, Except.map]

theorem wellI_forest {N : List Nd} {L : List St} (h : wellI N L = true) : ∃ S, Forest (N.map Nd.kids) 0 S N.length ∧ topsI S = L.flatMap askedOf := by
  simp only [wellI, Bool.and_eq_true, decide_eq_true_eq] at h
  obtain ⟨⟨⟨h1, ⟨h2, h3⟩, h4⟩, h5⟩, h6⟩ := h
  obtain ⟨S, hr, ht⟩ : ∃ S, runT (N.map Nd.kids) N.length [] 0 = some S ∧ topsI S = L.flatMap askedOf := by
    rw [shapeI] at h6
    cases hq : runT (N.map Nd.kids) N.length [] 0 with
    | none => rw [hq] at h6; cases h6
    | some S => rw [hq] at h6; exact ⟨S, rfl, of_decide_eq_true h6⟩
  obtain ⟨hF, _⟩ := forest_runT N.length (.nil 0) (fun p hp => (by cases hp)) hr
  rw [Nat.zero_add] at hF
  exact ⟨S, hF, ht⟩

theorem asked_sumX {N : List Nd} {L : List St} (W : WellP N L) (Es : List Ex) : ∀ s ∈ L, cntP Es s.cond + cntP Es s.grant = ((askedOf s).map (cntP Es)).sum := fun s hs => by
  have gr : cntP Es s.grant = ((if s.grant ≠ -1 then [s.grant] else []).map (cntP Es)).sum := by
    by_cases g : s.grant = -1
    · rw [if_neg (fun k => k g), g]; rfl
    · rw [if_pos g]; simp
  rw [askedOf, List.map_append, List.sum_append, ← gr]
  congr 1
  by_cases k3 : s.kind = 3
  · rw [if_neg (fun k => k k3)]
    rcases W.stm s hs with q | q | q
    · omega
    · omega
    · rw [q.2]; rfl
  · rw [if_pos k3]; simp

theorem cntL_allX {N : List Nd} {L : List St} (h : wellI N L = true) {Es : List Ex} (hEl : Es.length = N.length) (hE : ∀ j, (h : j < Es.length) → IsT N j Es[j]) : cntL Es L = N.length := by
  obtain ⟨S, hF, ht⟩ := wellI_forest h
  have h1 := forest_sumX hEl hE hF (Nat.le_refl _)
  rw [cntL_askedI Es L (asked_sumX (wellP_of h) Es), ← ht]
  omega

/-- each statement's trees stand behind those of the ones ahead -/
def spansX (Es : List Ex) (L : List St) : Prop := ∀ k, (h : k < L.length) → treeAtX Es (cntL Es (L.take k)) L[k].cond ∧ treeAtX Es (cntL Es (L.take k) + cntP Es L[k].cond) L[k].grant

theorem spansX_of {N : List Nd} {L : List St} (h : wellI N L = true) {Es : List Ex} (hEl : Es.length = N.length) (hE : ∀ j, (h : j < Es.length) → IsT N j Es[j]) : spansX Es L := fun k hk => by
  obtain ⟨S, hF, ht⟩ := wellI_forest h
  have W := wellP_of h
  have eL : L = L.take k ++ L[k] :: L.drop (k + 1) := by rw [List.getElem_cons_drop, List.take_append_drop]
  have e1 : cntL Es (L.take k) = (((L.take k).flatMap askedOf).map (cntP Es)).sum := cntL_askedI Es _ (fun s hs => asked_sumX W Es s (List.mem_of_mem_take hs))
  have e2 : topsI S = (L.take k).flatMap askedOf ++ (askedOf L[k] ++ (L.drop (k + 1)).flatMap askedOf) := by
    rw [ht]
    conv => lhs; rw [eL]
    rw [List.flatMap_append, List.flatMap_cons]
  have hs := List.getElem_mem hk
  generalize L[k] = s at e2 hs ⊢
  have kc : s.cond = -1 ∨ s.kind ≠ 3 := by
    rcases W.stm s hs with q | q | q
    · right; omega
    · right; omega
    · exact .inl q.2
  rw [e1]
  refine ⟨?_, ?_⟩
  · rcases kc with q | q
    · exact .inl q
    · rw [askedOf, if_pos q] at e2
      exact forest_atX hEl hE hF e2
  · by_cases g : s.grant = -1
    · exact .inl g
    · have q2 : askedOf s = (if s.kind ≠ 3 then [s.cond] else []) ++ [s.grant] := by rw [askedOf, if_pos g]
      have e3 : topsI S = ((L.take k).flatMap askedOf ++ (if s.kind ≠ 3 then [s.cond] else [])) ++ s.grant :: (L.drop (k + 1)).flatMap askedOf := by
        rw [e2, q2]; simp
      have r := forest_atX hEl hE hF e3
      have e4 : (((L.take k).flatMap askedOf ++ (if s.kind ≠ 3 then [s.cond] else [])).map (cntP Es)).sum = (((L.take k).flatMap askedOf).map (cntP Es)).sum + cntP Es s.cond := by
        rw [List.map_append, List.sum_append]
        congr 1
        by_cases k3 : s.kind = 3
        · rw [if_neg (fun k => k k3)]
          rcases kc with q | q
          · rw [q]; rfl
          · exact absurd k3 q
        · rw [if_pos k3]; simp
      rw [e4] at r
      exact r

theorem tysX_last (D : List Dc) : ∀ (e : Ex), ∃ l, tysX D e = l ++ [gX (tyX D e)]
  | .int .. | .text .. | .bool .. | .set .. | .name .. | .attr .. | .lett .. => ⟨[], rfl⟩
  | .un _ _ _ => ⟨_, rfl⟩
  | .bin _ _ _ _ => ⟨_, rfl⟩
  | .ite _ _ _ _ => ⟨_, rfl⟩

theorem tysX_at {D : List Dc} {tt : List Int} {e : Ex} {mm : Nat} {t : Int} (h : tt.length + e.cnt = mm + 1) (ht : tyX D e = .ok t) : (tt ++ tysX D e)[mm]? = some t := by
  obtain ⟨l, hl⟩ := tysX_last D e
  have h2 := tysX_len D e
  rw [hl] at h2 ⊢
  rw [List.length_append, List.length_singleton] at h2
  rw [← List.append_assoc, List.getElem?_append_right (by rw [List.length_append]; omega), List.length_append, show mm - (tt.length + l.length) = 0 by omega, ht]
  rfl

end Go.Proofs.YtddpcehgopeklaaGreatDoor

namespace Go.Proofs.YtddpcehgopeklaaGreatDoor
open Go.RowKit
set_option linter.unusedVariables false

theorem tryX_ok {D : List Dc} {e : Ex} {ys : List Int} (h : tryX D e = .ok ys) : ∃ t, tyX D e = .ok t ∧ ys = tysX D e := by
  unfold tryX at h
  cases ht : tyX D e with
  | error f => rw [ht] at h; cases h
  | ok t => rw [ht] at h; cases h; exact ⟨t, rfl, rfl⟩

theorem tryX_err {D : List Dc} {e : Ex} {f : Int × Int} (h : tryX D e = .error f) : tyX D e = .error f := by
  unfold tryX at h
  cases ht : tyX D e with
  | error g => rw [ht] at h; cases h; rfl
  | ok t => rw [ht] at h; cases h

theorem ckX_let {nm : ByteArray} {st : Cs} {i t : Int} {ys : List Int} (h : fnd st.1 nm = none) : treeC 1 nm st i (.ok t) ys = .ok (st.1 ++ [⟨nm, true, st.2.1.length, t⟩], st.2.1 ++ [t], st.2.2 ++ ys) := by
  simp [treeC, letX, h]

theorem ckX_again {nm : ByteArray} {st : Cs} {i t : Int} {ys : List Int} (h : (fnd st.1 nm).isSome) : treeC 1 nm st i (.ok t) ys = .error (8, i) := by
  simp [treeC, letX, h]

theorem ckX_when {kd : Int} {nm : ByteArray} {st : Cs} {i : Int} {ys : List Int} (hk : kd ≠ 1) : treeC kd nm st i (.ok 1) ys = .ok (st.1, st.2.1, st.2.2 ++ ys) := by
  simp [treeC, whenX, hk]

theorem ckX_wrong {kd : Int} {nm : ByteArray} {st : Cs} {i t : Int} {ys : List Int} (hk : kd ≠ 1) (ht : t ≠ 1) : treeC kd nm st i (.ok t) ys = .error (9, i) := by
  simp [treeC, whenX, hk, ht]

theorem ckX_err {kd : Int} {nm : ByteArray} {st : Cs} {i : Int} {f : Int × Int} {ys : List Int} : treeC kd nm st i (.error f) ys = .error f := by
  unfold treeC
  split <;> rfl

theorem whenX_hit {c : Int} {D : List Dc} {ts tt ys : List Int} {i : Int} : whenX c D ts tt i (.ok c) ys = .ok (D, ts, tt ++ ys) := by
  simp [whenX]

def condS (Es : List Ex) (st : Cs) (s : St) : Except (Int × Int) Cs := condX st ⟨0, s.kind, s.name, optE Es s.cond, optE Es s.grant⟩
def grantS (Es : List Ex) (st : Cs) (s : St) : Except (Int × Int) Cs := grantX st ⟨0, s.kind, s.name, optE Es s.cond, optE Es s.grant⟩
def stepS (Es : List Ex) (st : Cs) (s : St) : Except (Int × Int) Cs := (condS Es st s).bind fun s1 => grantS Es s1 s
def allS (Es : List Ex) : Cs → List St → Except (Int × Int) Cs
  | st, [] => .ok st
  | st, s :: L => (stepS Es st s).bind fun s1 => allS Es s1 L

theorem allS_eq (Es : List Ex) : ∀ (L : List St) (i : Nat) (st : Cs), allX st (sxL Es i L) = allS Es st L
  | [], i, st => rfl
  | s :: L, i, st => by
    rw [sxL, allX, allS]
    show (stepS Es st s).bind _ = _
    congr 1
    funext s1
    exact allS_eq Es L (i + 1) s1

theorem allS_app (Es : List Ex) : ∀ (L M : List St) (st : Cs), allS Es st (L ++ M) = (allS Es st L).bind fun st1 => allS Es st1 M
  | [], M, st => rfl
  | x :: L, M, st => by
    rw [List.cons_append, allS, allS]
    cases stepS Es st x with
    | error f => rfl
    | ok st1 => exact allS_app Es L M st1

theorem allS_snoc (Es : List Ex) (s : St) (L : List St) (st : Cs) : allS Es st (L ++ [s]) = (allS Es st L).bind fun st1 => stepS Es st1 s := by
  rw [allS_app]
  congr 1
  funext st1
  rw [allS]
  cases stepS Es st1 s <;> rfl

theorem allS_error (Es : List Ex) (L : List St) (st : Cs) (k : Nat) {f : Int × Int} (h : allS Es st (L.take k) = .error f) : allS Es st L = .error f := by
  have e := allS_app Es (L.take k) (L.drop k) st
  rw [List.take_append_drop, h] at e
  exact e

theorem allS_len {Es : List Ex} {L : List St} {st st1 : Cs} (h : allS Es st L = .ok st1) : st1.2.2.length = st.2.2.length + cntL Es L ∧ st1.2.1.length ≤ st.2.1.length + L.length ∧ (Wst st → Wst st1) := by
  rw [← allS_eq Es L 0] at h
  have := allX_len h
  rw [cntX_eq, sxL_len] at this
  exact this

theorem condS_at {Es : List Ex} {st : Cs} {kd : Int} {nm : ByteArray} {mm : Nat} {gr : Int} {e : Ex} (he : Es[mm]? = some e) : condS Es st ⟨kd, nm, mm, gr⟩ = treeC kd nm st e.pos (tyX st.1 e) (tysX st.1 e) := by
  have : optE Es (mm : Int) = some e := by rw [optE, if_neg (by omega), Int.toNat_natCast, he]
  simp only [condS, condX, this]

theorem grantS_none {Es : List Ex} {st : Cs} {kd : Int} {nm : ByteArray} {cd : Int} : grantS Es st ⟨kd, nm, cd, -1⟩ = .ok st := by
  have : optE Es (-1) = none := rfl
  simp only [grantS, grantX, this]

theorem grantS_at {Es : List Ex} {st : Cs} {kd : Int} {nm : ByteArray} {mm : Nat} {cd : Int} {e : Ex} (he : Es[mm]? = some e) : grantS Es st ⟨kd, nm, cd, mm⟩ = whenX 4 st.1 st.2.1 st.2.2 e.pos (tyX st.1 e) (tysX st.1 e) := by
  have : optE Es (mm : Int) = some e := by rw [optE, if_neg (by omega), Int.toNat_natCast, he]
  simp only [grantS, grantX, this]

theorem fnd_in1 {ns : List ByteArray} {ts : List Int} {nm : ByteArray} (h : nm ∈ (attN : List ByteArray)) : (fnd (dOf ns ts) nm).isSome := by
  have h0 := (findI_pos nm attN 0 (Int.le_refl 0)).2 h
  rw [dOf, fnd_app]
  rcases fnd_att nm with ⟨h1, _⟩ | ⟨j, _, _, h2⟩
  · rw [h1] at h0; omega
  · rw [h2]; rfl

theorem fnd_in2 {ns : List ByteArray} {ts : List Int} {nm : ByteArray} (hl : ns.length = ts.length) (h : nm ∈ ns) : (fnd (dOf ns ts) nm).isSome := by
  have h0 := (findI_pos nm ns 0 (Int.le_refl 0)).2 h
  rw [dOf, fnd_app]
  cases hf : fnd attD nm with
  | some d => rfl
  | none =>
    rcases fnd_lt nm ns ts 0 hl with ⟨h1, _⟩ | ⟨j, t, _, _, h2⟩
    · have h1' : findI nm ns 0 = -1 := h1
      rw [h1'] at h0; omega
    · show (fnd (ltD 0 ns ts) nm).isSome
      rw [h2]; rfl

theorem fnd_out {ns : List ByteArray} {ts : List Int} {nm : ByteArray} (hl : ns.length = ts.length) (h1 : nm ∉ (attN : List ByteArray)) (h2 : nm ∉ ns) : fnd (dOf ns ts) nm = none := by
  rw [dOf, fnd_app]
  rcases fnd_att nm with ⟨_, e1⟩ | ⟨j, _, e1, _⟩
  · rw [e1]
    rcases fnd_lt nm ns ts 0 hl with ⟨_, e2⟩ | ⟨j, t, e2, _, _⟩
    · exact e2
    · exact absurd ((findI_pos nm ns 0 (Int.le_refl 0)).1 (by have e2' : findI nm ns 0 = ((0 + j : Nat) : Int) := e2; rw [e2']; omega)) h2
  · exact absurd ((findI_pos nm attN 0 (Int.le_refl 0)).1 (by rw [e1]; omega)) h1

theorem ltD_snoc (nm : ByteArray) (t : Int) : ∀ (ns : List ByteArray) (ts : List Int) (k : Nat), ns.length = ts.length → ltD k (ns ++ [nm]) (ts ++ [t]) = ltD k ns ts ++ [⟨nm, true, ((k + ts.length : Nat) : Int), t⟩]
  | [], [], k, _ => rfl
  | n :: ns, x :: ts, k, h => by
    rw [List.cons_append, List.cons_append, ltD, ltD, ltD_snoc nm t ns ts (k + 1) (by simpa using h), List.cons_append, List.length_cons]
    congr 4
    omega
  | [], _ :: _, _, h => by cases h
  | _ :: _, [], _, h => by cases h

theorem dOf_snoc {ns : List ByteArray} {ts : List Int} {nm : ByteArray} {t : Int} (hl : ns.length = ts.length) : dOf ns ts ++ [⟨nm, true, ts.length, t⟩] = dOf (ns ++ [nm]) (ts ++ [t]) := by
  rw [dOf, dOf, ltD_snoc nm t ns ts 0 hl, List.append_assoc, Nat.zero_add]

theorem dOf_nil : dOf [] [] = attD := by simp [dOf, ltD]

theorem Lm.readX {B lb : Nat} {ns : List ByteArray} {ts tt : List Int} {nv lv : Value} {xt : Option Addr} {k ct : Nat} {w : World} (h : Lm B lb ns ts tt nv lv (.slice xt k ct) w) {i : Nat} {t : Int} (ht : tt[i]? = some t) : ∃ g, xt = some ⟨g, 0, none⟩ ∧ w.cell? ⟨g, i, none⟩ = some (.int .i64 t) ∧ (i : Int) < k := by
  have hi := (List.getElem?_eq_some_iff.1 ht).1
  obtain ⟨x, c, e, hx⟩ := owns_form2 h.types
  cases e
  obtain ⟨g, hg, _, hc⟩ := hx (by omega)
  exact ⟨g, hg, hc i _ (by rw [intsV, List.getElem?_map, ht]; rfl), by omega⟩

theorem Lm.nmsAtX {B lb : Nat} {ns : List ByteArray} {ts tt : List Int} {x : Option Addr} {n c : Nat} {lv tv : Value} {w : World} (h : Lm B lb ns ts tt (.slice x n c) lv tv w) : Nms w x ns ∧ w.cell? ⟨lb, 0, none⟩ = some (.slice x n c) := by
  obtain ⟨y, c', e, hx⟩ := owns_form2 h.names
  cases e
  refine ⟨fun j hj => ?_, h.row.cell 0⟩
  obtain ⟨g, hg, _, hc⟩ := hx (by omega)
  have hl := (h.names.lt g (by rw [hg]; rfl)).2
  exact ⟨g, 0, hg, hl, by rw [Nat.zero_add]; exact hc j _ (by rw [List.getElem?_map, List.getElem?_eq_getElem hj]; rfl)⟩

/-- the names of the lets, as they lie -/
theorem Lm.nmsX {B lb : Nat} {ns : List ByteArray} {ts tt : List Int} {nv lv tv : Value} {w : World} (h : Lm B lb ns ts tt nv lv tv w) : ∃ x c, nv = .slice x ns.length c ∧ Nms w x ns := by
  obtain ⟨x, c, e, hx⟩ := owns_form2 h.names
  refine ⟨x, c, e, fun j hj => ?_⟩
  obtain ⟨g, hg, _, hc⟩ := hx (by omega)
  have hl := (h.names.lt g (by rw [e, hg]; rfl)).2
  exact ⟨g, 0, hg, hl, by rw [Nat.zero_add]; exact hc j _ (by rw [List.getElem?_map, List.getElem?_eq_getElem hj]; rfl)⟩

theorem Ls.sizeX {B rb lb fb sb : Nat} {ns : List ByteArray} {ts tt : List Int} {nv lv tv : Value} {S : Array Value} {fc fa : Int} {w0 w : World} (h : Ls B rb lb fb sb ns ts tt nv lv tv S fc fa w0 w) : B ≤ w.heap.size := by have := h.S.lt; have := h.ord; omega

/-- what the model's checker says -/
def CkM (o : Except (Int × Int) Cs) (w : World) (r : Ending) (w' : World) : Prop :=
  (∃ (B lb : Nat) (ns : List ByteArray) (ts tt : List Int) (nv lv tv : Value), o = .ok (dOf ns ts, ts, tt) ∧ ns.length = ts.length ∧ r = .returned (.tuple #[tv, .pointer (some ⟨lb, 0, none⟩), .agg #[.int .i64 0, .int .i64 0]]) ∧ Lm B lb ns ts tt nv lv tv w' ∧ w.heap.size ≤ lb ∧ Below w.heap.size w w') ∨
  (∃ f : Int × Int, o = .error f ∧ r = .returned (.tuple #[.slice none 0 0, .pointer none, .agg #[.int .i64 f.1, .int .i64 f.2]]) ∧ f.1 ≠ 0 ∧ Below w.heap.size w w')

theorem tree_anyX (a : Option Addr) (n c : Nat) (N : List Nd) (hU : ∀ x ∈ N, fieldsB x = true) (w0 : World) (hN : Nds w0 a n c N) (B : Nat) (hB : w0.heap.size ≤ B) (Es : List Ex) (hEl : Es.length = n) (hE : ∀ j, (h : j < Es.length) → IsT N j Es[j]) (hn : n ≤ 4000)
    (lb : Nat) (ns : List ByteArray) (ts tt : List Int) (nv lv tv : Value) (hin : ∀ d ∈ dOf ns ts, 1 ≤ d.typ ∧ d.typ ≤ 4) (hsm : ns.length = ts.length) (hts : ts.length ≤ 1000) (htt : tt.length ≤ 4000) (mm : Nat) (e : Ex) (he : Es[mm]? = some e) (h1 : tt.length + e.cnt = mm + 1) (hs : spanX Es tt.length e) (W : World) (hW : Below w0.heap.size w0 W) (hM : Lm B lb ns ts tt nv lv tv W) (hBW : B ≤ W.heap.size) :
    Calls Tryz.prog 37 #[.slice a n c, .int .i64 tt.length, .int .i64 mm, .pointer (some ⟨lb, 0, none⟩), tv] W (TrX B tv tt (tryX (dOf ns ts) e) W) := by
  obtain ⟨la, lc, rfl, hla⟩ := owns_form2 hM.lets
  obtain ⟨xn, cn, rfl, hnm⟩ := hM.nmsX
  have hmm : mm < Es.length := (List.getElem?_eq_some_iff.1 he).1
  have e1 : (mm : Int) = ((tt.length + e.cnt : Nat) : Int) - 1 := by omega
  rw [← hs (dOf ns ts), e1]
  refine l3tree_anyX a n c N hU w0 hN B hB lb xn ns.length cn ns la ts.length lc ts hin Es hEl hE tt.length e.cnt (by omega) (by omega) hn tv tt htt W hW hBW ⟨hM.row.cell 0, hM.row.cell 1, hM.row.lt, hnm, rfl, by omega, ints_of_row hM.lets (by omega), hsm⟩ (fun e => own_ne_row hM.row hM.types (by decide) e.symm) (fun x hx e => ?_) (fun x hx e => own_apart hM.names hM.types (by decide) x.block (by rw [hx]; rfl) e.symm) hM.types
  by_cases h0 : ts.length = 0
  · have h2 : lb < W.heap.size := hM.row.lt
    rcases hM.lets.2 with ⟨hv, _⟩ | ⟨g, cap, cur, hv, _⟩
    · rw [hx] at hv; cases hv
    · rw [hx] at hv
      cases hv
      exact hM.apart g (by rw [hx]; rfl) e.symm
  · obtain ⟨g, hg, _⟩ := hla (by omega)
    rw [hg] at hx
    cases hx
    exact hM.apart g (by rw [hg]; rfl) e.symm

end Go.Proofs.YtddpcehgopeklaaGreatDoor

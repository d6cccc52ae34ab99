/-
  EDH, EDL. Own work.
-/
import Derived.Test.YtddpcehgopeklaaGreatDoorMXBN
import Derived.Test.YtddpcehgopeklaaGreatDoorECR
namespace Go.Proofs.YtddpcehgopeklaaGreatDoor
open Go.RowKit
set_option linter.unusedVariables false

/-- a node with its name resolved -/
def rvX (D : List Dc) (x : Nd) : Nd := if x.op = 5 then (match fnd D x.text with
  | some d => ⟨if d.isLet then 7 else 6, d.num, ⟨#[]⟩, [], []⟩
  | none => ⟨6, 0, ⟨#[]⟩, [], []⟩) else x

def ndX (N : List Nd) (D : List Dc) (j : Nat) : Option Nd := (N[j]?).map (rvX D)

/-- the nodes of trees side by side, the first at a place -/
def flsX (D : List Dc) : List Ex → Nat → List Nd
  | [], _ => []
  | e :: r, b => flE (rbE D e) b ++ flsX D r (b + e.cnt)

/-- where trees side by side end -/
def endsX : Nat → List Ex → List Nat
  | _, [] => []
  | b, e :: r => (b + e.cnt - 1) :: endsX (b + e.cnt) r

theorem text0 {s : ByteArray} (h : s.size = 0) : s = ⟨#[]⟩ := by
  cases s with
  | mk d =>
    have : d.size = 0 := h
    rw [Array.eq_empty_of_size_eq_zero this]

theorem names0 {l : List ByteArray} (h : l.length = 0) : l = [] := List.eq_nil_of_length_eq_zero h

theorem flE_node {N : List Nd} (D : List Dc) {t : Nat} {e : Ex} {x : Nd} (he : IsT N t e) (hx : N[t]? = some x) (hf : fieldsB x = true) (b : Nat) (hk : x.kids = (endsX b e.kids).map (fun (q : Nat) => (q : Int))) : flE (rbE D e) b = flsX D e.kids b ++ [rvX D x] := by
  have same : ∀ {y : Nd}, N[t]? = some y → y = x := fun k => Option.some.inj (k.symm.trans hx)
  rw [fieldsB, Bool.and_eq_true, decide_eq_true_eq] at hf
  obtain ⟨_, hf⟩ := hf
  cases he with
  | @int _ y h ho hk0 =>
    obtain rfl := same h
    rw [if_pos ho] at hf
    simp only [Bool.and_eq_true, decide_eq_true_eq] at hf
    obtain ⟨op, num, text, names, kids⟩ := y
    dsimp only at *
    subst ho hk0
    rw [text0 hf.1.2, names0 hf.2]
    rfl
  | @text _ y h ho hk0 =>
    obtain rfl := same h
    rw [if_neg (by omega), if_pos ho] at hf
    simp only [Bool.and_eq_true, decide_eq_true_eq] at hf
    obtain ⟨op, num, text, names, kids⟩ := y
    dsimp only at *
    subst ho hk0
    rw [hf.1.2, names0 hf.2]
    rfl
  | @bool _ y h ho hk0 =>
    obtain rfl := same h
    rw [if_neg (by omega), if_neg (by omega), if_pos ho] at hf
    simp only [Bool.and_eq_true, decide_eq_true_eq] at hf
    obtain ⟨op, num, text, names, kids⟩ := y
    dsimp only at *
    subst ho hk0
    rw [text0 hf.1.2, names0 hf.2]
    rcases hf.1.1 with rfl | rfl <;> rfl
  | @set _ y h ho hk0 a n c =>
    obtain rfl := same h
    rw [if_neg (by omega), if_neg (by omega), if_neg (by omega), if_pos ho] at hf
    simp only [Bool.and_eq_true, decide_eq_true_eq] at hf
    obtain ⟨op, num, text, names, kids⟩ := y
    dsimp only at *
    subst ho hk0
    rw [hf.1.2, text0 hf.2]
    rfl
  | @name _ y h ho hk0 =>
    obtain rfl := same h
    simp only [rbE, rsN, rvX, if_pos ho, Ex.kids, flsX, List.nil_append]
    cases fnd D y.text with
    | none => rfl
    | some d =>
      dsimp only
      cases d.isLet <;> rfl
  | @attr _ y h ho hk0 =>
    obtain rfl := same h
    rw [if_neg (by omega), if_neg (by omega), if_neg (by omega), if_neg (by omega), if_neg (by omega), if_pos (by omega)] at hf
    cases hf
  | @lett _ y h ho hk0 =>
    obtain rfl := same h
    rw [if_neg (by omega), if_neg (by omega), if_neg (by omega), if_neg (by omega), if_neg (by omega), if_pos (by omega)] at hf
    cases hf
  | @un _ k y e1 h ho hk0 hi u =>
    obtain rfl := same h
    rw [if_neg (by omega), if_neg (by omega), if_neg (by omega), if_neg (by omega), if_neg (by omega), if_neg (by omega)] at hf
    simp only [Bool.and_eq_true, decide_eq_true_eq] at hf
    simp only [rbE, flE, Ex.kids, flsX, endsX, List.append_nil, rb_cnt] at hk ⊢
    rw [rvX, if_neg (by omega)]
    obtain ⟨op, num, text, names, kids⟩ := y
    dsimp only at *
    rw [hf.1.1, text0 hf.1.2, names0 hf.2, hk]
    rfl
  | @bin _ k l y e1 e2 h ho hk0 hi u v =>
    obtain rfl := same h
    rw [if_neg (by omega), if_neg (by omega), if_neg (by omega), if_neg (by omega), if_neg (by omega), if_neg (by omega)] at hf
    simp only [Bool.and_eq_true, decide_eq_true_eq] at hf
    simp only [rbE, flE, Ex.kids, flsX, endsX, List.append_nil, rb_cnt] at hk ⊢
    rw [rvX, if_neg (by omega)]
    obtain ⟨op, num, text, names, kids⟩ := y
    dsimp only at *
    rw [hf.1.1, text0 hf.1.2, names0 hf.2, hk]
    rfl
  | @ite _ k l m y e1 e2 e3 h ho hk0 hi u v w =>
    obtain rfl := same h
    rw [if_neg (by omega), if_neg (by omega), if_neg (by omega), if_neg (by omega), if_neg (by omega), if_neg (by omega)] at hf
    simp only [Bool.and_eq_true, decide_eq_true_eq] at hf
    simp only [rbE, flE, Ex.kids, flsX, endsX, List.append_nil, rb_cnt, List.append_assoc] at hk ⊢
    rw [rvX, if_neg (by omega)]
    obtain ⟨op, num, text, names, kids⟩ := y
    dsimp only at *
    subst ho
    rw [hf.1.1, text0 hf.1.2, names0 hf.2, hk]
    rfl

theorem forest_fl {N : List Nd} (hF0 : ∀ x ∈ N, fieldsB x = true) (D : List Dc) {a b : Nat} {fs : List (Nat × Nat)} (h : Forest (N.map Nd.kids) a fs b) : ∀ (Fs : List Ex), IsTsX N (fs.map (fun p => p.1)) Fs → flsX D Fs a = (List.range' a (b - a)).filterMap (ndX N D) ∧ fs.map (fun p => p.1) = endsX a Fs ∧ a + (Fs.map Ex.cnt).sum = b := by
  induction h with
  | nil a =>
    intro Fs hF
    match Fs, hF with
    | [], _ => simp [flsX, endsX]
  | @cons a t b ks fs hk ht hf i1 i2 =>
    intro Fs hF
    match Fs, hF with
    | e :: Fs, ⟨he, hr⟩ =>
      obtain ⟨x, hx, hxk⟩ : ∃ x, N[t]? = some x ∧ x.kids = topsI ks := by
        rw [List.getElem?_map] at ht
        cases hx : N[t]? with
        | none => rw [hx] at ht; cases ht
        | some x => rw [hx] at ht; exact ⟨x, rfl, Option.some.inj ht⟩
      obtain ⟨qs, hq, hqs⟩ := he.kidsX hx
      have e1 : ks.map (fun p => p.1) = qs := by
        have := hxk.symm.trans hq
        rw [topsI] at this
        have h2 := congrArg (List.map Int.toNat) this
        simpa [List.map_map, Function.comp_def] using h2
      obtain ⟨j1, j2, j3⟩ := i1 e.kids (by rw [e1]; exact hqs)
      have la := hk.le
      have lb := hf.le
      have hcn : e.cnt = (e.kids.map Ex.cnt).sum + 1 := by
        cases e <;> simp [Ex.cnt, Ex.kids] <;> omega
      have et : a + e.cnt = t + 1 := by omega
      obtain ⟨l1, l2, l3⟩ := i2 Fs hr
      have er : List.range' a (b - a) = List.range' a (t - a) ++ t :: List.range' (t + 1) (b - (t + 1)) := by
        have e2 : b - a = (t - a) + (1 + (b - (t + 1))) := by omega
        rw [e2, ← List.range'_append_1, ← List.range'_append_1]
        have e3 : a + (t - a) = t := by omega
        rw [e3]
        rfl
      have hn := flE_node D he hx (hF0 _ (List.mem_of_getElem? hx)) a (by rw [hxk, topsI, ← j2, List.map_map]; rfl)
      have ex : ndX N D t = some (rvX D x) := by rw [ndX, hx]; rfl
      refine ⟨?_, ?_, ?_⟩
      · rw [flsX, hn, j1, et, l1, er, List.filterMap_append, List.filterMap_cons, ex]
        simp
      · rw [List.map_cons, endsX, et, l2]
        simp
      · rw [List.map_cons, List.sum_cons]
        omega

/-- a tree's nodes are those from its place on -/
def spanF (N : List Nd) (c : Nat) (e : Ex) : Prop := ∀ D, flE (rbE D e) c = (List.range' c e.cnt).filterMap (ndX N D)

def treeAtF (N : List Nd) (Es : List Ex) (c : Nat) (k : Int) : Prop := k = -1 ∨ ∃ (mm : Nat) (e : Ex), k = mm ∧ Es[mm]? = some e ∧ c + e.cnt = mm + 1 ∧ spanF N c e

theorem forest_atF {N : List Nd} (hF0 : ∀ x ∈ N, fieldsB x = true) {Es : List Ex} (hEl : Es.length = N.length) (hE : ∀ j, (h : j < Es.length) → IsT N j Es[j]) {S : List (Nat × Nat)} (hF : Forest (N.map Nd.kids) 0 S N.length) {pre post : List Int} {x : Int} (h : topsI S = pre ++ x :: post) : treeAtF N Es ((pre.map (cntP Es)).sum) x := by
  rw [topsI] at h
  obtain ⟨S1, S2, rfl, h1, h2⟩ := List.map_eq_append_iff.1 h
  obtain ⟨p, S3, rfl, h3, h4⟩ := List.map_eq_cons_iff.1 h2
  obtain ⟨c, F1, F2⟩ := hF.split
  have hc := forest_sumX hEl hE F1 (by have := F2.le; omega)
  have hp := (F2.lt p (List.mem_cons_self ..)).2
  have e1 : c = (pre.map (cntP Es)).sum := by rw [← h1]; rw [topsI] at hc; omega
  have hpl : p.1 < Es.length := by omega
  have F3 : Forest (N.map Nd.kids) c [p] (p.1 + 1) := by
    cases F2 with
    | cons hk ht hf => exact .cons hk ht (.nil _)
  have k1 := forest_sumX hEl hE F3 (by omega)
  have k2 : cntP Es (p.1 : Nat) = Es[p.1].cnt := cntP_at rfl (List.getElem?_eq_getElem hpl)
  have k3 : c + Es[p.1].cnt = p.1 + 1 := by
    simp only [topsI, List.map_cons, List.map_nil, List.sum_cons, List.sum_nil] at k1
    omega
  rw [← e1]
  refine .inr ⟨p.1, Es[p.1], h3.symm, List.getElem?_eq_getElem hpl, k3, fun ts => ?_⟩
  have k4 := (forest_fl hF0 ts F3 [Es[p.1]] ⟨hE p.1 hpl, trivial⟩).1
  rw [show p.1 + 1 - c = Es[p.1].cnt by omega] at k4
  rw [← k4]
  simp [flsX]

/-- each statement's trees stand behind those of the ones ahead -/
def spansF (N : List Nd) (Es : List Ex) (L : List St) : Prop := ∀ k, (h : k < L.length) → treeAtF N Es (cntL Es (L.take k)) L[k].cond ∧ treeAtF N Es (cntL Es (L.take k) + cntP Es L[k].cond) L[k].grant

theorem spansF_of {N : List Nd} {L : List St} (h : wellI N L = true) {Es : List Ex} (hEl : Es.length = N.length) (hE : ∀ j, (h : j < Es.length) → IsT N j Es[j]) : spansF N Es L := fun k hk => by
  obtain ⟨S, hF, ht⟩ := wellI_forest h
  have W := wellP_of h
  have eL : L = L.take k ++ L[k] :: L.drop (k + 1) := by rw [List.getElem_cons_drop, List.take_append_drop]
  have e1 : cntL Es (L.take k) = (((L.take k).flatMap askedOf).map (cntP Es)).sum := cntL_askedI Es _ (fun s hs => asked_sumX W Es s (List.mem_of_mem_take hs))
  have e2 : topsI S = (L.take k).flatMap askedOf ++ (askedOf L[k] ++ (L.drop (k + 1)).flatMap askedOf) := by
    rw [ht]
    conv => lhs; rw [eL]
    rw [List.flatMap_append, List.flatMap_cons]
  have hs := List.getElem_mem hk
  generalize L[k] = s at e2 hs ⊢
  have kc : s.cond = -1 ∨ s.kind ≠ 3 := by
    rcases W.stm s hs with q | q | q
    · right; omega
    · right; omega
    · exact .inl q.2
  rw [e1]
  refine ⟨?_, ?_⟩
  · rcases kc with q | q
    · exact .inl q
    · rw [askedOf, if_pos q] at e2
      exact forest_atF W.fields hEl hE hF e2
  · by_cases g : s.grant = -1
    · exact .inl g
    · have q2 : askedOf s = (if s.kind ≠ 3 then [s.cond] else []) ++ [s.grant] := by rw [askedOf, if_pos g]
      have e3 : topsI S = ((L.take k).flatMap askedOf ++ (if s.kind ≠ 3 then [s.cond] else [])) ++ s.grant :: (L.drop (k + 1)).flatMap askedOf := by
        rw [e2, q2]; simp
      have r := forest_atF W.fields hEl hE hF e3
      have e4 : (((L.take k).flatMap askedOf ++ (if s.kind ≠ 3 then [s.cond] else [])).map (cntP Es)).sum = (((L.take k).flatMap askedOf).map (cntP Es)).sum + cntP Es s.cond := by
        rw [List.map_append, List.sum_append]
        congr 1
        by_cases k3 : s.kind = 3
        · rw [if_neg (fun k => k k3)]
          rcases kc with q | q
          · rw [q]; rfl
          · exact absurd k3 q
        · rw [if_pos k3]; simp
      rw [e4] at r
      exact r

theorem sxL_snoc (Es : List Ex) (s : St) : ∀ (L : List St) (i : Nat), sxL Es i (L ++ [s]) = sxL Es i L ++ [⟨((i + L.length : Nat) : Int), s.kind, s.name, optE Es s.cond, optE Es s.grant⟩]
  | [], i => by simp [sxL]
  | x :: L, i => by
    have e : i + 1 + L.length = i + (L.length + 1) := by omega
    rw [List.cons_append, sxL, sxL, sxL_snoc Es s L (i + 1), List.cons_append, List.length_cons, e]

theorem flO_at {N : List Nd} {Es : List Ex} {c : Nat} {k : Int} (D : List Dc) (h : treeAtF N Es c k) : flO (rbO D (optE Es k)) c = (List.range' c (cntP Es k)).filterMap (ndX N D) ∧ ixO (rbO D (optE Es k)) c = k := by
  rcases h with rfl | ⟨mm, e, rfl, he, h1, h2⟩
  · exact ⟨by simp [optE, rbO, flO, cntP], rfl⟩
  · have eo : optE Es (mm : Int) = some e := by rw [optE, if_neg (by omega), Int.toNat_natCast, he]
    rw [eo, cntP_at rfl he]
    refine ⟨h2 D, ?_⟩
    show (((c + (rbE D e).cnt - 1 : Nat)) : Int) = mm
    rw [rb_cnt]
    omega

theorem num_take {N : List Nd} {Es : List Ex} {L : List St} (hs : spansF N Es L) (D : List Dc) : ∀ k, k ≤ L.length → numN 0 ((sxL Es 0 (L.take k)).map (rbS D)) = (List.range' 0 (cntL Es (L.take k))).filterMap (ndX N D) ∧ numT 0 ((sxL Es 0 (L.take k)).map (rbS D)) = L.take k
  | 0, _ => by simp [sxL, numN, numT, cntL]
  | k + 1, h => by
    obtain ⟨i1, i2⟩ := num_take hs D k (by omega)
    have hk : k < L.length := by omega
    obtain ⟨s1, s2⟩ := hs k hk
    obtain ⟨a1, a2⟩ := flO_at D s1
    obtain ⟨b1, b2⟩ := flO_at D s2
    have ec : ∀ (A : List St) (s : St), cntL Es (A ++ [s]) = cntL Es A + (cntP Es s.cond + cntP Es s.grant) := fun A s => by simp [cntL]
    have ex : cntX ((sxL Es 0 (L.take k)).map (rbS D)) = cntL Es (L.take k) := by rw [rbS_cnt, cntX_eq]
    rw [List.take_succ_eq_append_getElem hk, sxL_snoc, List.map_append, List.map_cons, List.map_nil, numN_snoc, numT_snoc, ex, i1, i2, ec]
    simp only [Nat.zero_add]
    have er : ∀ m n p : Nat, List.range' 0 (m + (n + p)) = List.range' 0 m ++ List.range' m n ++ List.range' (m + n) p := fun m n p => by
      rw [← Nat.add_assoc, ← List.range'_append_1, ← List.range'_append_1]
      simp
    generalize L[k] = s at *
    refine ⟨?_, ?_⟩
    · rw [er, List.filterMap_append, List.filterMap_append]
      show _ ++ flO (rbO D (optE Es s.cond)) _ ++ flO (rbO D (optE Es s.grant)) (_ + cntO (rbO D (optE Es s.cond))) = _
      rw [a1, rbO_cnt, cntO_at, b1]
    · show _ ++ [(⟨s.kind, s.name, ixO (rbO D (optE Es s.cond)) _, ixO (rbO D (optE Es s.grant)) (_ + cntO (rbO D (optE Es s.cond)))⟩ : St)] = _
      rw [a2, rbO_cnt, cntO_at, b2]

theorem range_nd' (D : List Dc) : ∀ (N M : List Nd) (k : Nat), M.drop k = N → (List.range' k N.length).filterMap (ndX M D) = N.map (rvX D)
  | [], M, k, h => by simp
  | x :: N, M, k, h => by
    have h1 : M[k]? = some x := by
      have := congrArg (fun l => l[0]?) h
      simpa [List.getElem?_drop] using this
    have h2 : M.drop (k + 1) = N := by
      have := congrArg List.tail h
      simpa [List.tail_drop] using this
    have e : ndX M D k = some (rvX D x) := by rw [ndX, h1]; rfl
    rw [List.length_cons, List.range'_succ, List.filterMap_cons, e, List.map_cons]
    dsimp only
    rw [range_nd' D N M (k + 1) h2]

theorem range_nd (N : List Nd) (D : List Dc) : (List.range' 0 N.length).filterMap (ndX N D) = N.map (rvX D) := range_nd' D N N 0 rfl

/-- what Check gives: the nodes with their names resolved, and the statements -/
theorem num_all {N : List Nd} {L : List St} (h : wellI N L = true) {Es : List Ex} (hEl : Es.length = N.length) (hE : ∀ j, (h : j < Es.length) → IsT N j Es[j]) (D : List Dc) : numN 0 ((sxL Es 0 L).map (rbS D)) = N.map (rvX D) ∧ numT 0 ((sxL Es 0 L).map (rbS D)) = L := by
  have := num_take (spansF_of h hEl hE) D L.length (Nat.le_refl _)
  rw [List.take_length, cntL_allX h hEl hE, range_nd] at this
  exact this

/-- what is said of a policy, told by its nodes -/
def IsCn (N : List Nd) (L : List St) (r : CkR) : Prop :=
  (wellI N L = false ∧ r = .error (10, 0)) ∨ (wellI N L = true ∧ ∃ Es : List Ex, Es.length = N.length ∧ (∀ j, (h : j < Es.length) → IsT N j Es[j]) ∧ r = match allS Es (attD, [], []) L with
    | .error f => .error f
    | .ok st => .ok (N.map (rvX st.1), L, st.2.2))

theorem IsCk.cn {N : List Nd} {L : List St} {r : CkR} (h : IsCk N L r) : IsCn N L r := by
  rcases h with h | ⟨hw, Es, h1, h2, rfl⟩
  · exact .inl h
  · refine .inr ⟨hw, Es, h1, h2, ?_⟩
    rw [ckP, allS_eq]
    cases allS Es (attD, [], []) L with
    | error f => rfl
    | ok st =>
      obtain ⟨e1, e2⟩ := num_all hw h1 h2 st.1
      dsimp only
      rw [e1, e2]

theorem allS_one {N : List Nd} {Es Fs : List Ex} (h1 : Es.length = N.length) (h2 : Fs.length = N.length) (hE : ∀ j, (h : j < Es.length) → IsT N j Es[j]) (hF : ∀ j, (h : j < Fs.length) → IsT N j Fs[j]) : ∀ (L : List St) (st : Cs), allS Es st L = allS Fs st L := by
  have key : ∀ (k : Int), (optE Es k = none ∧ optE Fs k = none) ∨ ∃ e f, optE Es k = some e ∧ optE Fs k = some f ∧ e.pos = f.pos ∧ ∀ D, tyX D e = tyX D f ∧ tysX D e = tysX D f := fun k => by
    unfold optE
    by_cases hk : k = -1
    · rw [if_pos hk, if_pos hk]; exact .inl ⟨rfl, rfl⟩
    · rw [if_neg hk, if_neg hk]
      by_cases hl : k.toNat < N.length
      · have l1 : k.toNat < Es.length := by omega
        have l2 : k.toNat < Fs.length := by omega
        refine .inr ⟨_, _, List.getElem?_eq_getElem l1, List.getElem?_eq_getElem l2, ?_, fun D => (hE _ l1).ty_oneX (hF _ l2) D⟩
        rw [(hE _ l1).pos, (hF _ l2).pos]
      · exact .inl ⟨List.getElem?_eq_none (by omega), List.getElem?_eq_none (by omega)⟩
  have step : ∀ st s, stepS Es st s = stepS Fs st s := fun st s => by
    have c : condS Es st s = condS Fs st s := by
      simp only [condS, condX]
      rcases key s.cond with ⟨e1, e2⟩ | ⟨e, f, e1, e2, e3, e4⟩
      · rw [e1, e2]
      · rw [e1, e2]
        dsimp only
        rw [e3, (e4 st.1).1, (e4 st.1).2]
    have g : ∀ st, grantS Es st s = grantS Fs st s := fun st => by
      simp only [grantS, grantX]
      rcases key s.grant with ⟨e1, e2⟩ | ⟨e, f, e1, e2, e3, e4⟩
      · rw [e1, e2]
      · rw [e1, e2]
        dsimp only
        rw [e3, (e4 st.1).1, (e4 st.1).2]
    rw [stepS, stepS, c]
    congr 1
    funext s1
    exact g s1
  intro L
  induction L with
  | nil => intro st; rfl
  | cons s L ih =>
    intro st
    rw [allS, allS, step]
    congr 1
    funext s1
    exact ih s1

/-- what is said of a policy is one -/
theorem IsCn.one {N : List Nd} {L : List St} {r q : CkR} (h : IsCn N L r) (k : IsCn N L q) : r = q := by
  rcases h with ⟨h1, rfl⟩ | ⟨h1, Es, h2, h3, rfl⟩
  · rcases k with ⟨_, rfl⟩ | ⟨k1, _⟩
    · rfl
    · rw [h1] at k1; cases k1
  · rcases k with ⟨k1, _⟩ | ⟨_, Fs, k2, k3, rfl⟩
    · rw [h1] at k1; cases k1
    · rw [allS_one h2 k2 h3 k3]

end Go.Proofs.YtddpcehgopeklaaGreatDoor

namespace Go.Proofs.YtddpcehgopeklaaGreatDoor
open Go.RowKit
set_option linter.unusedVariables false

theorem frst_mem : ∀ {os : List Rc} {f : Nat} {K : List Int}, frst f os = .ok K → ∀ o ∈ os, ∃ t, o = .ok t
  | .error c :: _, f, K, h, o, ho => by cases h
  | .ok t :: r, f, K, h, o, ho => by
    obtain ⟨K', h1, _⟩ := frst_cons h
    rcases List.mem_cons.1 ho with e | e
    · exact ⟨t, e⟩
    · exact frst_mem h1 o e

theorem span_ok {Es : List Ex} {c : Nat} {e : Ex} {D : List Dc} {t : Int} (h : spanX Es c e) (ht : tyX D e = .ok t) {j : Nat} (h1 : c ≤ j) (h2 : j < c + e.cnt) : ∃ t, nodeX Es D j = .ok t := by
  have hs := h D
  rw [tryX, ht] at hs
  exact frst_mem hs _ (List.mem_map.2 ⟨j, by rw [List.mem_range'_1]; exact ⟨h1, h2⟩, rfl⟩)

theorem condS_ok {Es : List Ex} {st st1 : Cs} {s : St} (h : condS Es st s = .ok st1) : st.1 <+: st1.1 ∧ ∀ (mm : Nat) (e : Ex), s.cond = mm → Es[mm]? = some e → ∃ t, tyX st.1 e = .ok t := by
  obtain ⟨kd, nm, cd, gr⟩ := s
  refine ⟨?_, fun mm e hc he => ?_⟩
  · simp only [condS, condX] at h
    cases ho : optE Es cd with
    | none => rw [ho] at h; cases h; exact List.prefix_refl _
    | some e =>
      rw [ho] at h
      simp only [treeC] at h
      split at h
      · obtain ⟨t, _, _, rfl⟩ := letX_ok h
        exact List.prefix_append _ _
      · obtain ⟨_, rfl⟩ := whenX_ok h
        exact List.prefix_refl _
  · dsimp only at hc
    subst hc
    rw [condS_at he] at h
    unfold treeC at h
    split at h
    · obtain ⟨t, h1, _, _⟩ := letX_ok h
      exact ⟨t, h1⟩
    · exact ⟨_, (whenX_ok h).1⟩

theorem grantS_ok {Es : List Ex} {st st1 : Cs} {s : St} (h : grantS Es st s = .ok st1) : st1.1 = st.1 ∧ ∀ (mm : Nat) (e : Ex), s.grant = mm → Es[mm]? = some e → ∃ t, tyX st.1 e = .ok t := by
  obtain ⟨kd, nm, cd, gr⟩ := s
  refine ⟨?_, fun mm e hc he => ?_⟩
  · simp only [grantS, grantX] at h
    cases ho : optE Es gr with
    | none => rw [ho] at h; cases h; rfl
    | some e =>
      rw [ho] at h
      obtain ⟨_, rfl⟩ := whenX_ok h
      rfl
  · dsimp only at hc
    subst hc
    rw [grantS_at he] at h
    exact ⟨_, (whenX_ok h).1⟩

theorem nodes_found {Es : List Ex} {L : List St} (hs : spansX Es L) : ∀ k, k ≤ L.length → ∀ {st : Cs}, allS Es (attD, [], []) (L.take k) = .ok st → ∀ j, j < cntL Es (L.take k) → ∃ D t, D <+: st.1 ∧ nodeX Es D j = .ok t
  | 0, _, st, h, j, hj => by simp [cntL] at hj
  | k + 1, hk, st, h, j, hj => by
    have hkl : k < L.length := by omega
    obtain ⟨s1, s2⟩ := hs k hkl
    have ec : ∀ (A : List St) (s : St), cntL Es (A ++ [s]) = cntL Es A + (cntP Es s.cond + cntP Es s.grant) := fun A s => by simp [cntL]
    rw [List.take_succ_eq_append_getElem hkl] at h hj
    rw [allS_snoc] at h
    rw [ec] at hj
    cases h0 : allS Es (attD, [], []) (L.take k) with
    | error f => rw [h0] at h; cases h
    | ok st0 =>
      rw [h0] at h
      change (condS Es st0 L[k]).bind (fun s1 => grantS Es s1 L[k]) = .ok st at h
      cases h1 : condS Es st0 L[k] with
      | error f => rw [h1] at h; cases h
      | ok st1 =>
        rw [h1] at h
        change grantS Es st1 L[k] = .ok st at h
        obtain ⟨p1, c1⟩ := condS_ok h1
        obtain ⟨p2, c2⟩ := grantS_ok h
        by_cases q1 : j < cntL Es (L.take k)
        · obtain ⟨D, t, hD, ht⟩ := nodes_found hs k (by omega) h0 j q1
          exact ⟨D, t, hD.trans (by rw [p2]; exact p1), ht⟩
        · by_cases q2 : j < cntL Es (L.take k) + cntP Es L[k].cond
          · rcases s1 with e0 | ⟨mm, e, e0, he, hc, hsp⟩
            · rw [e0, show cntP Es (-1) = 0 from rfl] at q2; omega
            · obtain ⟨t, ht⟩ := c1 mm e e0 he
              rw [e0, cntP_at rfl he] at q2
              obtain ⟨t', ht'⟩ := span_ok hsp ht (j := j) (by omega) q2
              exact ⟨st0.1, t', by rw [p2]; exact p1, ht'⟩
          · rcases s2 with e0 | ⟨mm, e, e0, he, hc, hsp⟩
            · rw [e0, show cntP Es (-1) = 0 from rfl] at hj; omega
            · obtain ⟨t, ht⟩ := c2 mm e e0 he
              rw [e0, cntP_at rfl he] at hj
              obtain ⟨t', ht'⟩ := span_ok hsp ht (j := j) (by omega) (by omega)
              exact ⟨st1.1, t', by rw [p2]; exact List.prefix_refl _, ht'⟩

/-- a name that was let through is known -/
theorem name_found {N : List Nd} {L : List St} (h : wellI N L = true) {Es : List Ex} (hEl : Es.length = N.length) (hE : ∀ j, (h : j < Es.length) → IsT N j Es[j]) {st : Cs} (hc : allS Es (attD, [], []) L = .ok st) {j : Nat} {x : Nd} (hx : N[j]? = some x) (ho : x.op = 5) : (fnd st.1 x.text).isSome := by
  have hj : j < N.length := (List.getElem?_eq_some_iff.1 hx).1
  obtain ⟨D, t, ⟨E, hD⟩, ht⟩ := nodes_found (spansX_of h hEl hE) L.length (Nat.le_refl _) (by rw [List.take_length]; exact hc) j (by rw [List.take_length, cntL_allX h hEl hE]; exact hj)
  have hje : j < Es.length := by omega
  rw [nodeX, List.getElem?_eq_getElem hje] at ht
  have hi := hE j hje
  have e : Es[j] = .name j x.text := by
    rcases hi.inv hx with ⟨o, r⟩ | ⟨o, r⟩ | ⟨o, r⟩ | ⟨o, r⟩ | ⟨o, r⟩ | ⟨o, r⟩ | ⟨o, r⟩ | ⟨o, r⟩ | ⟨o, r⟩ | ⟨o, r⟩ <;> first | omega | exact r
  rw [e] at ht
  change cR (tyX D (.name j x.text)) = .ok t at ht
  rw [tyX] at ht
  cases hf : fnd D x.text with
  | none => rw [hf] at ht; cases ht
  | some d => rw [← hD, fnd_app, hf]; rfl

/-- the model's node with its name resolved -/
noncomputable def rvM (ns : List ByteArray) (x : Nd) : Nd := if x.op = 5 then (if findI x.text attN 0 < 0 then ⟨7, findI x.text ns 0, ⟨#[]⟩, x.names, x.kids⟩ else ⟨6, findI x.text attN 0, ⟨#[]⟩, x.names, x.kids⟩) else x

theorem rvM_eq {ns : List ByteArray} {ts : List Int} (hl : ns.length = ts.length) {x : Nd} (hf : fieldsB x = true) (hs : x.op = 5 → (fnd (dOf ns ts) x.text).isSome) : rvM ns x = rvX (dOf ns ts) x := by
  unfold rvM rvX
  by_cases ho : x.op = 5
  · rw [if_pos ho, if_pos ho]
    rw [fieldsB, Bool.and_eq_true, decide_eq_true_eq] at hf
    obtain ⟨h1, hf⟩ := hf
    rw [if_neg (by omega), if_neg (by omega), if_neg (by omega), if_neg (by omega), if_pos ho] at hf
    simp only [Bool.and_eq_true, decide_eq_true_eq] at hf
    have hn := names0 hf.2
    have hk : x.kids = [] := by
      rw [ho] at h1
      have : kidN 5 = 0 := by decide
      rw [this] at h1
      exact List.eq_nil_of_length_eq_zero (by omega)
    rw [hn, hk]
    have hs := hs ho
    rw [dOf, fnd_app] at hs ⊢
    rcases fnd_att x.text with ⟨e1, e2⟩ | ⟨j, _, e1, e2⟩
    · rw [e1, if_pos (by decide), e2]
      rw [e2] at hs
      rcases fnd_lt x.text ns ts 0 hl with ⟨_, e3⟩ | ⟨j, t, e3, _, e4⟩
      · rw [e3] at hs; cases hs
      · have e3' : findI x.text ns 0 = ((0 + j : Nat) : Int) := e3
        rw [e3', e4]
        rfl
    · rw [e1, if_neg (by omega), e2]
      rfl
  · rw [if_neg ho, if_neg ho]

end Go.Proofs.YtddpcehgopeklaaGreatDoor

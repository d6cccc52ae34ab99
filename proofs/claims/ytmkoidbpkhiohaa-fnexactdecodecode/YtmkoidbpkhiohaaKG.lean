/-
  Pools of the call's own. Own work.
-/
import Derived.Test.YtmkoidbpkhiohaaKF
namespace Go.Proofs.Ytmkoidbpkhiohaa
open Go.RowKit
set_option linter.unusedVariables false

/-- a value's cells -/
def vl4 (x : Vl) (u : Value) : List Value := [.int .i64 x.kind, .int .i64 x.num, .string x.text, u]

def vlC : List Vl → List Value → List Value
  | x :: P, u :: nv => vl4 x u ++ vlC P nv
  | _, _ => []

theorem vlC_len : ∀ (P : List Vl) (nv : List Value), nv.length = P.length → (vlC P nv).length = P.length * 4
  | [], _, _ => by simp [vlC]
  | x :: P, [], h => by simp at h
  | x :: P, u :: nv, h => by
    have := vlC_len P nv (by simpa using h)
    simp only [vlC, vl4, List.length_append, List.length_cons, List.length_nil, this]; omega

theorem vlC_snoc : ∀ (P : List Vl) (nv : List Value) (x : Vl) (u : Value), nv.length = P.length → vlC (P ++ [x]) (nv ++ [u]) = vlC P nv ++ vl4 x u
  | [], [], x, u, _ => by simp [vlC]
  | [], _ :: _, x, u, h => by simp at h
  | y :: P, [], x, u, h => by simp at h
  | y :: P, z :: nv, x, u, h => by
    have := vlC_snoc P nv x u (by simpa using h)
    simp only [List.cons_append, vlC, this, List.append_assoc]

theorem vlC_at : ∀ (P : List Vl) (nv : List Value) (j : Nat) (h : j < P.length) (h' : j < nv.length), (vlC P nv)[j * 4]? = some (.int .i64 P[j].kind) ∧ (vlC P nv)[j * 4 + 1]? = some (.int .i64 P[j].num) ∧ (vlC P nv)[j * 4 + 2]? = some (.string P[j].text) ∧ (vlC P nv)[j * 4 + 3]? = some nv[j]
  | x :: P, u :: nv, 0, _, _ => by simp [vlC, vl4]
  | x :: P, u :: nv, j + 1, h, h' => by
    have ih := vlC_at P nv j (by simpa using h) (by simpa using h')
    have e : ∀ i, (vlC (x :: P) (u :: nv))[(j + 1) * 4 + i]? = (vlC P nv)[j * 4 + i]? := fun i => by
      rw [vlC, List.getElem?_append_right (by simp [vl4]; omega)]
      congr 1
      simp [vl4]; omega
    exact ⟨(e 0).trans ih.1, (e 1).trans ih.2.1, (e 2).trans ih.2.2.1, (e 3).trans ih.2.2.2⟩
  | [], _, _, h, _ => absurd h (by simp)
  | _ :: _, [], _, _, h => absurd h (by simp)

/-- values in a row of the call's own, their names in rows of their own -/
structure OwnP (w : World) (lo : Nat) (v : Value) (P : List Vl) (nv : List Value) : Prop where
  len : nv.length = P.length
  own : w.ownsRow lo 42 4 v P.length (vlC P nv)
  names : ∀ j, (h : j < P.length) → (h' : j < nv.length) → w.ownsRow lo 9 1 nv[j] P[j].names.length (P[j].names.map Value.string)
  apart : ∀ i j, (hij : i < j) → (h : j < nv.length) → ∀ q, (nv[i]'(by omega)).ownBlock = some q → nv[j].ownBlock ≠ some q
  far : ∀ j, (h : j < nv.length) → ∀ q, nv[j].ownBlock = some q → v.ownBlock ≠ some q

theorem OwnP.nil (w : World) (lo : Nat) : OwnP w lo (.slice none 0 0) [] [] :=
  ⟨rfl, World.ownsRow_nil _ _ _ _, fun j h => absurd h (by simp), fun i j _ h => absurd h (by simp), fun j h => absurd h (by simp)⟩

theorem owns_blocks {w w' : World} {base : Nat} {e : TypeId} {size n : Nat} {v : Value} {xs : List Value} (h : w.ownsRow base e size v n xs) (hd : ∀ q, v.ownBlock = some q → w'.heap[q]? = w.heap[q]?) : w'.ownsRow base e size v n xs := by
  refine ⟨h.1, ?_⟩
  rcases h.2 with h2 | ⟨g, cap, cur, hv, h3, hg, h4⟩
  · exact .inl h2
  · exact .inr ⟨g, cap, cur, hv, h3, (hd g (by rw [hv]; rfl)).trans hg, h4⟩

theorem OwnP.lts {w : World} {lo : Nat} {v : Value} {P : List Vl} {nv : List Value} (h : OwnP w lo v P nv) : (∀ q, v.ownBlock = some q → lo ≤ q ∧ q < w.heap.size) ∧ ∀ j, (hj : j < nv.length) → ∀ q, nv[j].ownBlock = some q → lo ≤ q ∧ q < w.heap.size :=
  ⟨fun q hq => h.own.lt q hq, fun j hj q hq => (h.names j (by rw [← h.len]; exact hj) hj).lt q hq⟩

theorem OwnP.blocks {w w' : World} {lo : Nat} {v : Value} {P : List Vl} {nv : List Value} (h : OwnP w lo v P nv) (hd : ∀ k, lo ≤ k → k < w.heap.size → w'.heap[k]? = w.heap[k]?) : OwnP w' lo v P nv :=
  ⟨h.len, owns_blocks h.own (fun q hq => hd q (h.lts.1 q hq).1 (h.lts.1 q hq).2), fun j hj hj' => owns_blocks (h.names j hj hj') (fun q hq => hd q (h.lts.2 j hj' q hq).1 (h.lts.2 j hj' q hq).2), h.apart, h.far⟩

theorem OwnP.touch {w w' : World} {lo l1 h1 : Nat} {v : Value} {P : List Vl} {nv : List Value} (h : OwnP w lo v P nv) (T : Touch l1 h1 w w') (hd : h1 ≤ lo) : OwnP w' lo v P nv :=
  h.blocks (fun k hk hk' => T.block k hk' (.inr (by omega)))

theorem OwnP.set {w : World} {lo : Nat} {v : Value} {P : List Vl} {nv : List Value} (h : OwnP w lo v P nv) (p : Addr) (u : Value) (hp : p.block < lo) : OwnP (w.setCell p u) lo v P nv :=
  h.blocks (fun k hk hk' => heap_setCell_other w p k u (by omega))

theorem OwnP.alloc {w : World} {lo : Nat} {v : Value} {P : List Vl} {nv : List Value} (h : OwnP w lo v P nv) (o : Obj) : OwnP (w.alloc o) lo v P nv :=
  h.blocks (fun k hk hk' => Below.heap_alloc w o k hk')

theorem OwnP.low {w : World} {lo lo' : Nat} {v : Value} {P : List Vl} {nv : List Value} (h : OwnP w lo v P nv) (hl : lo' ≤ lo) : OwnP w lo' v P nv :=
  ⟨h.len, ownsRow_low' h.own hl, fun j hj hj' => ownsRow_low' (h.names j hj hj') hl, h.apart, h.far⟩

theorem OwnP.grown {w w' : World} {lo : Nat} {v : Value} {P : List Vl} {nv : List Value} {row : Option Nat} (h : OwnP w lo v P nv) (hg : w.grownBy w' row) (hr : ∀ q, row = some q → v.ownBlock ≠ some q ∧ ∀ j, (hj : j < nv.length) → nv[j].ownBlock ≠ some q) : OwnP w' lo v P nv :=
  ⟨h.len, owns_blocks h.own (fun q hq => hg.block q (h.lts.1 q hq).2 (fun e => (hr q e.symm).1 hq)), fun j hj hj' => owns_blocks (h.names j hj hj') (fun q hq => hg.block q (h.lts.2 j hj' q hq).2 (fun e => (hr q e.symm).2 j hj' hq)), h.apart, h.far⟩

/-- one more -/
theorem OwnP.snoc {w1 w2 : World} {lo : Nat} {v v' u : Value} {P : List Vl} {nv : List Value} {x : Vl} (h : OwnP w1 lo v P nv)
    (hu : w1.ownsRow lo 9 1 u x.names.length (x.names.map Value.string)) (hua : ∀ j, (hj : j < nv.length) → ∀ q, nv[j].ownBlock = some q → u.ownBlock ≠ some q) (huv : ∀ q, u.ownBlock = some q → v.ownBlock ≠ some q)
    (hown : w2.ownsRow lo 42 4 v' (P.length + 1) (vlC P nv ++ vl4 x u)) (hg : w1.grownBy w2 v.ownBlock) (hv : ∀ q, v'.ownBlock = some q → v.ownBlock = some q ∨ w1.heap.size ≤ q) : OwnP w2 lo v' (P ++ [x]) (nv ++ [u]) := by
  have hl := h.len
  have key : ∀ j, (hj : j < (nv ++ [u]).length) → ∀ q, (nv ++ [u])[j].ownBlock = some q → q < w1.heap.size ∧ v.ownBlock ≠ some q := fun j hj q hq => by
    by_cases hjn : j < nv.length
    · rw [List.getElem_append_left hjn] at hq
      exact ⟨(h.lts.2 j hjn q hq).2, h.far j hjn q hq⟩
    · have e : j = nv.length := by simp at hj; omega
      subst e
      simp at hq
      exact ⟨(hu.lt q hq).2, huv q hq⟩
  refine ⟨by simp [hl], by rw [List.length_append, List.length_singleton, vlC_snoc _ _ _ _ hl]; exact hown, fun j hj hj' => ?_, fun i j hij hj q hq => ?_, fun j hj q hq => ?_⟩
  · by_cases hjn : j < nv.length
    · have a1 : (nv ++ [u])[j] = nv[j] := List.getElem_append_left hjn
      have a2 : (P ++ [x])[j] = P[j]'(by omega) := List.getElem_append_left (by omega)
      rw [a1, a2]
      refine owns_blocks (h.names j (by omega) hjn) (fun q hq => ?_)
      have := key j hj' q (by rw [a1]; exact hq)
      exact hg.block q this.1 (fun e => this.2 e.symm)
    · have e : j = nv.length := by simp at hj'; omega
      subst e
      have a1 : (nv ++ [u])[nv.length]'hj' = u := by simp
      have a2 : (P ++ [x])[nv.length]'hj = x := by simp [hl]
      rw [a1, a2]
      refine owns_blocks hu (fun q hq => ?_)
      have := key nv.length hj' q (by rw [a1]; exact hq)
      exact hg.block q this.1 (fun e => this.2 e.symm)
  · by_cases hjn : j < nv.length
    · rw [List.getElem_append_left hjn]
      rw [List.getElem_append_left (by omega)] at hq
      exact h.apart i j hij hjn q hq
    · have e : j = nv.length := by simp at hj; omega
      subst e
      rw [List.getElem_append_left hij] at hq
      simp
      exact hua i hij q hq
  · have k := key j hj q hq
    intro e
    rcases hv q e with e' | e'
    · exact k.2 e'
    · omega

/-- small values -/
def okV (x : Vl) : Prop := x.text.size ≤ 255 ∧ x.names.length ≤ 255 ∧ ∀ s ∈ x.names, s.size ≤ 255

theorem OwnP.vls {w : World} {lo n c : Nat} {a : Option Addr} {P : List Vl} {nv : List Value} (h : OwnP w lo (.slice a n c) P nv) (hn : P.length = n) (hk : n ≤ 65535) (ok : ∀ x ∈ P, okV x) : Vls w a n c P := by
  refine ⟨hn, by omega, fun x hx => by have := (ok x hx).1; omega, fun j hj => ?_⟩
  have hj' : j < nv.length := by rw [h.len]; exact hj
  obtain ⟨c0, c1, c2, c3⟩ := vlC_at P nv j hj hj'
  obtain ⟨g, ha⟩ : ∃ g, a = some ⟨g, 0, none⟩ := by
    rcases h.own.2 with ⟨_, h0⟩ | ⟨g, cap, cur, hv, _⟩
    · omega
    · simp only [Value.slice.injEq] at hv; exact ⟨g, hv.1⟩
  subst ha
  subst hn
  have hl := vlC_len P nv h.len
  have cell : ∀ i, i < 4 → w.cell? ⟨g, 0 + j * 4 + i, none⟩ = (vlC P nv)[j * 4 + i]? := fun i hi => by
    rw [Nat.zero_add]; exact h.own.cellAt (g := g) (n := P.length) (j * 4 + i) (by omega)
  obtain ⟨an, cn, hu⟩ := owns_form (h.names j hj hj')
  have hN := h.names j hj hj'
  rw [hu] at c3 hN
  refine ⟨g, 0, rfl, (h.own.lt g rfl).2, an, _, cn, (cell 0 (by omega)).trans c0, (cell 1 (by omega)).trans c1, (cell 2 (by omega)).trans c2, (cell 3 (by omega)).trans c3, Strs.of_owns hN ?_⟩
  intro i hi
  have hm := (ok P[j] (List.getElem_mem hj)).2.2 _ (List.getElem_mem hi)
  rw [nth_eq _ i hi]; unfold maxLen; omega

/-- instructions in a row of the call's own -/
def inC (I : List Is1) : List Value := I.flatMap fun i => [.int .i64 i.op, .int .i64 i.arg]

theorem inC_len (I : List Is1) : (inC I).length = I.length * 2 := by
  induction I with
  | nil => rfl
  | cons i I ih => simp only [inC, List.flatMap_cons, List.length_append, List.length_cons, List.length_nil] at ih ⊢; omega

theorem inC_snoc (I : List Is1) (i : Is1) : inC (I ++ [i]) = inC I ++ [.int .i64 i.op, .int .i64 i.arg] := by simp [inC]

theorem inC_at : ∀ (I : List Is1) (j : Nat) (h : j < I.length), (inC I)[j * 2]? = some (.int .i64 I[j].op) ∧ (inC I)[j * 2 + 1]? = some (.int .i64 I[j].arg)
  | i :: I, 0, _ => by simp [inC]
  | i :: I, j + 1, h => by
    have ih := inC_at I j (by simpa using h)
    have e : ∀ q, (inC (i :: I))[(j + 1) * 2 + q]? = (inC I)[j * 2 + q]? := fun q => by
      rw [inC, List.flatMap_cons, List.getElem?_append_right (by simp; omega)]
      show (inC I)[_]? = _
      congr 1
      simp; omega
    exact ⟨(e 0).trans ih.1, (e 1).trans ih.2⟩

theorem iss_of_owns {w : World} {lo n c : Nat} {a : Option Addr} {I : List Is1} (h : w.ownsRow lo 45 2 (.slice a n c) n (inC I)) (hn : I.length = n) (hk : n ≤ 65535) : Iss w a n c I := by
  refine ⟨hn, by omega, fun j hj => ?_⟩
  obtain ⟨g, ha⟩ : ∃ g, a = some ⟨g, 0, none⟩ := by
    rcases h.2 with ⟨_, h0⟩ | ⟨g, cap, cur, hv, _⟩
    · omega
    · simp only [Value.slice.injEq] at hv; exact ⟨g, hv.1⟩
  subst ha
  subst hn
  have hl := inC_len I
  obtain ⟨c0, c1⟩ := inC_at I j hj
  have cell : ∀ i, i < 2 → w.cell? ⟨g, 0 + j * 2 + i, none⟩ = (inC I)[j * 2 + i]? := fun i hi => by
    rw [Nat.zero_add]; exact h.cellAt (g := g) (n := I.length) (j * 2 + i) (by omega)
  exact ⟨g, 0, rfl, (h.lt g rfl).2, (cell 0 (by omega)).trans c0, (cell 1 (by omega)).trans c1⟩

theorem manyI_all {α : Type} {f : Rs → α × Rs} {p : α → Prop} (hf : ∀ s : Rs, okB s.1 → p (f s).1 ∧ okB (f s).2.1) : ∀ (k : Nat) (s : Rs), okB s.1 → (∀ x ∈ (manyI f k s).1, p x) ∧ okB (manyI f k s).2.1 ∧ (manyI f k s).1.length ≤ k
  | 0, s, h => ⟨(fun x hx => by cases hx), h, Nat.le_refl _⟩
  | k + 1, s, h => by
    rw [manyI]
    split
    · exact ⟨(fun x hx => by cases hx), h, Nat.zero_le _⟩
    · obtain ⟨h1, h2⟩ := hf s h
      obtain ⟨h3, h4, h5⟩ := manyI_all hf k (f s).2 h2
      refine ⟨fun x hx => ?_, h4, by simp; exact h5⟩
      rcases List.mem_cons.1 hx with rfl | hx
      · exact h1
      · exact h3 x hx

theorem valI_ok (s : Rs) (h : okB s.1) : okV (valI s).1 ∧ okB (valI s).2.1 := by
  show okV (valKI (numI 1 s).1 (numI 1 s).2).1 ∧ okB (valKI (numI 1 s).1 (numI 1 s).2).2.1
  have h1 : okB (numI 1 s).2.1 := (takeI_ok 1 s h).2
  generalize numI 1 s = r at h1
  obtain ⟨k, s1⟩ := r
  simp only at h1 ⊢
  have nl : okV ⟨k, 0, ⟨#[]⟩, []⟩ := ⟨by simp [ByteArray.size], by simp, fun x hx => by cases hx⟩
  unfold valKI
  split
  · exact ⟨⟨nl.1, nl.2⟩, (takeI_ok 1 s1 h1).2⟩
  split
  · exact ⟨⟨nl.1, nl.2⟩, (takeI_ok 8 s1 h1).2⟩
  split
  · have := textI_ok s1 h1
    exact ⟨⟨this.1, nl.2⟩, this.2⟩
  split
  · have a1 := num1_range s1 h1
    obtain ⟨b1, b2, b3⟩ := manyI_all (f := textI) (p := fun t => t.size ≤ 255) (fun s hs => textI_ok s hs) (numI 1 s1).1.toNat (numI 1 s1).2 (takeI_ok 1 s1 h1).2
    exact ⟨⟨nl.1, (by show (manyI textI (numI 1 s1).1.toNat (numI 1 s1).2).1.length ≤ 255; omega), b1⟩, b2⟩
  · exact ⟨nl, h1⟩

end Go.Proofs.Ytmkoidbpkhiohaa

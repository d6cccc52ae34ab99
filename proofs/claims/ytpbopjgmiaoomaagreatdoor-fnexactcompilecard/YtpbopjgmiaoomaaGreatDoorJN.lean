/-
  What a well-formed typed policy is like. Own work.
-/
import Derived.Test.YtpbopjgmiaoomaaGreatDoorMXAS
import Derived.Test.YtpbopjgmiaoomaaGreatDoorMXAP
namespace Go.Proofs.YtpbopjgmiaoomaaGreatDoor
open Go.RowKit
set_option linter.unusedVariables false

theorem forest_kids {K : List (List Int)} {a b : Nat} {fs : List (Nat × Nat)} (h : Forest K a fs b) : ∀ t, a ≤ t → t < b → ∃ ks : List (Nat × Nat), K[t]? = some (topsI ks) ∧ ∀ p ∈ ks, p.1 < t := by
  induction h with
  | nil a => intro t h1 h2; omega
  | @cons a t b ks fs hk ht hf i1 i2 =>
    intro q h1 h2
    by_cases h3 : q < t
    · exact i1 q h1 h3
    by_cases h4 : q = t
    · subst h4
      exact ⟨ks, ht, fun p hp => (hk.lt p hp).2⟩
    · exact i2 q (by omega) h2

theorem cnt_le {e : Ex} : ∀ {Es : List Ex}, e ∈ Es → e.cnt ≤ cnts Es
  | x :: Es, h => by
    have e5 : cnts (x :: Es) = x.cnt + cnts Es := by simp [cnts]
    rw [e5]
    rcases List.mem_cons.1 h with rfl | h
    · omega
    · have := cnt_le h; omega

structure WellPT (N : List Nd) (L : List St) : Prop where
  n : N.length ≤ 4000
  m0 : 1 ≤ L.length
  m : L.length ≤ 600
  fields : ∀ x ∈ N, fieldsT x = true
  kids : ∀ (i : Nat) (x : Nd), N[i]? = some x → ∀ k ∈ x.kids, 0 ≤ k ∧ k < (i : Int)
  roots : ∀ s ∈ L, (s.cond = -1 ∨ (0 ≤ s.cond ∧ s.cond < N.length)) ∧ (s.grant = -1 ∨ (0 ≤ s.grant ∧ s.grant < N.length))
  stm : ∀ s ∈ L, (s.kind = 1 ∧ s.name.size ≤ 32 ∧ 0 ≤ s.cond ∧ s.grant = -1) ∨ (s.kind = 2 ∧ 0 ≤ s.cond) ∨ (s.kind = 3 ∧ s.cond = -1)
  cnt : ∀ (Es : List Ex), Es.length = N.length → (∀ j, (h : j < Es.length) → IsT N j Es[j]) → ∀ s ∈ L, ∀ k, (k = s.cond ∨ k = s.grant) → 0 ≤ k → ∀ e, Es[k.toNat]? = some e → e.cnt ≤ 4000

theorem stmtsI_all : ∀ {L : List St}, stmtsI L = true → ∀ s ∈ L, stmtI s = true
  | x :: L, h, s, hs => by
    simp only [stmtsI, Bool.and_eq_true] at h
    rcases List.mem_cons.1 hs with rfl | hs
    · exact h.1.1
    · exact stmtsI_all h.2 s hs

theorem wellPT_of {N : List Nd} {L : List St} (h : wellT N L = true) : WellPT N L := by
  simp only [wellT, Bool.and_eq_true, decide_eq_true_eq] at h
  obtain ⟨⟨⟨h1, ⟨h2, h3⟩, h4⟩, h5⟩, h6⟩ := h
  obtain ⟨S, hr, ht⟩ : ∃ S, runT (N.map Nd.kids) N.length [] 0 = some S ∧ topsI S = L.flatMap askedOf := by
    rw [shapeI] at h6
    cases hq : runT (N.map Nd.kids) N.length [] 0 with
    | none => rw [hq] at h6; cases h6
    | some S => rw [hq] at h6; exact ⟨S, rfl, of_decide_eq_true h6⟩
  obtain ⟨hF, _⟩ := forest_runT N.length (.nil 0) (fun p hp => (by cases hp)) hr
  rw [Nat.zero_add] at hF
  have asked : ∀ s ∈ L, ∀ k ∈ askedOf s, ∃ p ∈ S, k = (p.1 : Int) := fun s hs k hk => by
    have : k ∈ topsI S := by rw [ht]; exact List.mem_flatMap.2 ⟨s, hs, hk⟩
    rw [topsI] at this
    obtain ⟨p, hp, rfl⟩ := List.mem_map.1 this
    exact ⟨p, hp, rfl⟩
  have inR : ∀ s ∈ L, ∀ k ∈ askedOf s, 0 ≤ k ∧ k < N.length := fun s hs k hk => by
    obtain ⟨p, hp, rfl⟩ := asked s hs k hk
    have := (hF.lt p hp).2
    omega
  have ac : ∀ s ∈ L, s.kind ≠ 3 → s.cond ∈ askedOf s := fun s _ h => by rw [askedOf, if_pos h]; simp
  have ag : ∀ s ∈ L, s.grant ≠ -1 → s.grant ∈ askedOf s := fun s _ h => by rw [askedOf, if_pos h]; simp
  have sI := stmtsI_all h4
  have stm : ∀ s ∈ L, (s.kind = 1 ∧ s.name.size ≤ 32 ∧ 0 ≤ s.cond ∧ s.grant = -1) ∨ (s.kind = 2 ∧ 0 ≤ s.cond) ∨ (s.kind = 3 ∧ s.cond = -1) := fun s hs => by
    have h := sI s hs
    rw [stmtI] at h
    by_cases k1 : s.kind = 1
    · rw [if_pos k1] at h
      simp only [Bool.and_eq_true, decide_eq_true_eq] at h
      exact .inl ⟨k1, identB_size h.1, (inR s hs _ (ac s hs (by omega))).1, h.2⟩
    rw [if_neg k1] at h
    by_cases k2 : s.kind = 2
    · exact .inr (.inl ⟨k2, (inR s hs _ (ac s hs (by omega))).1⟩)
    rw [if_neg k2] at h
    by_cases k3 : s.kind = 3
    · rw [if_pos k3] at h
      simp only [Bool.and_eq_true, decide_eq_true_eq] at h
      exact .inr (.inr ⟨k3, h.2⟩)
    · rw [if_neg k3] at h
      cases h
  refine ⟨h1, h2, h3, fun x hx => List.all_eq_true.1 h5 x hx, fun i x hx k hk => ?_, fun s hs => ⟨?_, ?_⟩, stm, fun Es hl hE s hs k hk h0 e he => ?_⟩
  · have hi : i < N.length := (List.getElem?_eq_some_iff.1 hx).1
    obtain ⟨ks, e1, e2⟩ := forest_kids hF i (Nat.zero_le _) hi
    rw [List.getElem?_map, hx] at e1
    have e3 : x.kids = topsI ks := Option.some.inj e1
    rw [e3, topsI] at hk
    obtain ⟨p, hp, rfl⟩ := List.mem_map.1 hk
    have := e2 p hp
    omega
  · by_cases k3 : s.kind = 3
    · rcases stm s hs with h | h | h
      · omega
      · omega
      · exact .inl h.2
    · exact .inr (inR s hs _ (ac s hs k3))
  · by_cases g : s.grant = -1
    · exact .inl g
    · exact .inr (inR s hs _ (ag s hs g))
  · have hk2 : k ∈ askedOf s := by
      rcases hk with rfl | rfl
      · apply ac s hs
        intro k3
        rcases stm s hs with h | h | h <;> omega
      · exact ag s hs (by omega)
    obtain ⟨p, hp, rfl⟩ := asked s hs k hk2
    have hlt : ∀ q ∈ S, q.1 < Es.length := fun q hq => by rw [hl]; exact (hF.lt q hq).2
    have key := forest_cnt hF (S.attach.map (fun q => Es[q.1.1]'(hlt q.1 q.2))) (by simp) (fun j h1 h2 => by
      have := hE (S[j]).1 (hlt _ (List.getElem_mem h1))
      simpa using this)
    rw [Int.toNat_natCast] at he
    have hm : e ∈ S.attach.map (fun q => Es[q.1.1]'(hlt q.1 q.2)) := by
      refine List.mem_map.2 ⟨⟨p, hp⟩, List.mem_attach _ _, ?_⟩
      exact (List.getElem?_eq_some_iff.1 he).2
    have := cnt_le hm
    omega

theorem mkTT_of {N : List Nd} {i : Nat} {x : Nd} {an : Option Addr} {nn cn : Nat} (hx : N[i]? = some x) (hf : fieldsT x = true) (hk : ∀ k ∈ x.kids, 0 ≤ k ∧ k < i) {Es : List Ex} (hl : Es.length = i)
    (hE : ∀ j, (h : j < Es.length) → IsT N j Es[j]) (hfit : ∀ e ∈ Es, e.typed) : ∃ e, MkT Es i x an nn cn e ∧ IsT N i e ∧ e.typed := by
  rw [fieldsT, Bool.and_eq_true, decide_eq_true_eq] at hf
  obtain ⟨hkn, hf⟩ := hf
  have hkids : ∀ n : Nat, kidN x.op = n → x.kids.length = n := fun n e => by omega
  have none' : (1 ≤ x.op ∧ x.op ≤ 7) → x.kids = [] := fun h => List.eq_nil_of_length_eq_zero (hkids 0 (by rw [kidN, if_pos h]; rfl))
  have fitAt : ∀ {m : Nat} {e : Ex}, Es[m]? = some e → e.typed := fun h => hfit _ (List.mem_of_getElem? h)
  by_cases h1 : x.op = 1
  · exact ⟨_, .int h1, .int hx h1 (none' (by omega)), trivial⟩
  by_cases h2 : x.op = 2
  · exact ⟨_, .text h2, .text hx h2 (none' (by omega)), trivial⟩
  by_cases h3 : x.op = 3
  · exact ⟨_, .bool h3, .bool hx h3 (none' (by omega)), trivial⟩
  by_cases h4 : x.op = 4
  · exact ⟨_, .set h4, .set hx h4 (none' (by omega)) an nn cn, trivial⟩
  by_cases h5 : x.op = 5
  · rw [tfB, if_pos h5] at hf
    cases hf
  by_cases h6 : x.op = 6
  · rw [tfB, if_neg h5, if_pos h6] at hf
    simp only [Bool.and_eq_true, decide_eq_true_eq] at hf
    exact ⟨_, .attr h6, .attr hx h6 (none' (by omega)), hf.1.1⟩
  by_cases h7 : x.op = 7
  · exact ⟨_, .lett h7, .lett hx h7 (none' (by omega)), trivial⟩
  by_cases h8 : 8 ≤ x.op ∧ x.op ≤ 10
  · have hl1 := hkids 1 (by rw [kidN, if_neg (by omega), if_pos h8]; rfl)
    match hkk : x.kids, hl1 with
    | [k], _ =>
      obtain ⟨m, e, rfl, hm, g1, g2⟩ := kids_at hl hE (hk k (by rw [hkk]; simp))
      exact ⟨_, .un h8 hkk g1, .un hx h8 hkk hm g2, h8, fitAt g1⟩
  by_cases h11 : 11 ≤ x.op ∧ x.op ≤ 26
  · have hl1 := hkids 2 (by rw [kidN, if_neg (by omega), if_neg h8, if_pos h11]; rfl)
    match hkk : x.kids, hl1 with
    | [k, l], _ =>
      obtain ⟨m, e, rfl, hm, g1, g2⟩ := kids_at hl hE (hk k (by rw [hkk]; simp))
      obtain ⟨n, f, rfl, hn, j1, j2⟩ := kids_at hl hE (hk l (by rw [hkk]; simp))
      exact ⟨_, .bin h11 hkk g1 j1, .bin hx h11 hkk ⟨hm, hn⟩ g2 j2, h11, fitAt g1, fitAt j1⟩
  by_cases h27 : x.op = 27
  · have hl1 := hkids 3 (by rw [kidN, if_neg (by omega), if_neg h8, if_neg h11, if_pos h27]; rfl)
    match hkk : x.kids, hl1 with
    | [k, l, o], _ =>
      obtain ⟨m, e, rfl, hm, g1, g2⟩ := kids_at hl hE (hk k (by rw [hkk]; simp))
      obtain ⟨n, f, rfl, hn, j1, j2⟩ := kids_at hl hE (hk l (by rw [hkk]; simp))
      obtain ⟨p, g, rfl, hp, q1, q2⟩ := kids_at hl hE (hk o (by rw [hkk]; simp))
      exact ⟨_, .ite h27 hkk g1 j1 q1, .ite hx h27 hkk ⟨hm, hn, hp⟩ g2 j2 q2, fitAt g1, fitAt j1, fitAt q1⟩
  · rw [kidN, if_neg (by omega), if_neg h8, if_neg h11, if_neg h27] at hkn
    omega

theorem makes_typed {w0 : World} {N : List Nd} {L : List St} (h : WellPT N L) : Makes w0 N Ex.typed :=
  fun k x an nn cn Es hx hl hE hf hS => mkTT_of hx (h.fields _ (List.mem_of_getElem? hx)) (h.kids k _ hx) hl hE hf

/-- the places of a well-formed typed policy -/
theorem okP_of {N : List Nd} {L : List St} {Es : List Ex} (h : WellPT N L) (hl : Es.length = N.length) (hE : ∀ j, (h : j < Es.length) → IsT N j Es[j]) (hf : ∀ e ∈ Es, e.typed) : ∀ s ∈ L, okP Es s.cond ∧ okP Es s.grant := fun s hs => by
  obtain ⟨r1, r2⟩ := h.roots s hs
  have get : ∀ k, (k = s.cond ∨ k = s.grant) → 0 ≤ k ∧ k < N.length → okP Es k := fun k hk hb =>
    .inr ⟨k.toNat, Es[k.toNat]'(by omega), by omega, List.getElem?_eq_getElem _, hf _ (List.getElem_mem _), h.cnt Es hl hE s hs k hk hb.1 _ (List.getElem?_eq_getElem (by omega))⟩
  exact ⟨r1.elim .inl (fun hb => get _ (.inl rfl) hb), r2.elim .inl (fun hb => get _ (.inr rfl) hb)⟩

theorem cntL_asked (Es : List Ex) : ∀ (L : List St), (∀ s ∈ L, cntP Es s.cond + cntP Es s.grant = ((askedOf s).map (cntP Es)).sum) → cntL Es L = ((L.flatMap askedOf).map (cntP Es)).sum
  | [], _ => rfl
  | s :: L, h => by
    have ih := cntL_asked Es L (fun x hx => h x (List.mem_cons_of_mem _ hx))
    have h1 := h s (List.mem_cons_self ..)
    have e : cntL Es (s :: L) = cntP Es s.cond + cntP Es s.grant + cntL Es L := by simp [cntL]
    rw [e, h1, ih, List.flatMap_cons, List.map_append, List.sum_append]

theorem cntL_le {N : List Nd} {L : List St} (h : wellT N L = true) {Es : List Ex} (hl : Es.length = N.length) (hE : ∀ j, (h : j < Es.length) → IsT N j Es[j]) : cntL Es L ≤ 4000 := by
  have W := wellPT_of h
  have hn := W.n
  simp only [wellT, Bool.and_eq_true, decide_eq_true_eq] at h
  obtain ⟨⟨⟨h1, ⟨h2, h3⟩, h4⟩, h5⟩, h6⟩ := h
  obtain ⟨S, hr, ht⟩ : ∃ S, runT (N.map Nd.kids) N.length [] 0 = some S ∧ topsI S = L.flatMap askedOf := by
    rw [shapeI] at h6
    cases hq : runT (N.map Nd.kids) N.length [] 0 with
    | none => rw [hq] at h6; cases h6
    | some S => rw [hq] at h6; exact ⟨S, rfl, of_decide_eq_true h6⟩
  obtain ⟨hF, _⟩ := forest_runT N.length (.nil 0) (fun p hp => (by cases hp)) hr
  rw [Nat.zero_add] at hF
  have e1 : ∀ s ∈ L, cntP Es s.cond + cntP Es s.grant = ((askedOf s).map (cntP Es)).sum := fun s hs => by
    have c0 : cntP Es (-1) = 0 := rfl
    have gr : cntP Es s.grant = ((if s.grant ≠ -1 then [s.grant] else []).map (cntP Es)).sum := by
      by_cases g : s.grant = -1
      · rw [if_neg (fun k => k g), g]; rfl
      · rw [if_pos g]; simp
    rw [askedOf, List.map_append, List.sum_append, ← gr]
    congr 1
    by_cases k3 : s.kind = 3
    · rw [if_neg (fun k => k k3)]
      rcases W.stm s hs with q | q | q
      · omega
      · omega
      · rw [q.2]; rfl
    · rw [if_pos k3]; simp
  rw [cntL_asked Es L e1, ← ht]
  have hlt : ∀ q ∈ S, q.1 < Es.length := fun q hq => by rw [hl]; exact (hF.lt q hq).2
  have key := forest_cnt hF (S.attach.map (fun q => Es[q.1.1]'(hlt q.1 q.2))) (by simp) (fun j h1 h2 => by
    have := hE (S[j]).1 (hlt _ (List.getElem_mem h1))
    simpa using this)
  have e2 : (topsI S).map (cntP Es) = (S.attach.map (fun q => Es[q.1.1]'(hlt q.1 q.2))).map Ex.cnt := by
    apply List.ext_getElem
    · simp [topsI]
    · intro j h1 h2
      have hj : j < S.length := by simpa [topsI] using h1
      have hq := hlt S[j] (List.getElem_mem hj)
      simp only [topsI, List.getElem_map, List.getElem_attach]
      exact cntP_at rfl (List.getElem?_eq_getElem hq)
  rw [e2]
  have e3 : ((S.attach.map (fun q => Es[q.1.1]'(hlt q.1 q.2))).map Ex.cnt).sum = cnts (S.attach.map (fun q => Es[q.1.1]'(hlt q.1 q.2))) := rfl
  rw [e3]
  omega

end Go.Proofs.YtpbopjgmiaoomaaGreatDoor

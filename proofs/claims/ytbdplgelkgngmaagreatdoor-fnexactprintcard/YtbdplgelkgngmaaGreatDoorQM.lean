/-
  What a valid policy is like, for its printing. Own work.
-/
import Derived.Test.YtbdplgelkgngmaaGreatDoorMHB
import Derived.Test.YtbdplgelkgngmaaGreatDoorQK
import Derived.Test.YtbdplgelkgngmaaGreatDoorVPM
namespace Go.Proofs.YtbdplgelkgngmaaGreatDoor
open Go.RowKit
set_option linter.unusedVariables false

theorem forest_kids {K : List (List Int)} {a b : Nat} {fs : List (Nat × Nat)} (h : Forest K a fs b) : ∀ t, a ≤ t → t < b → ∃ ks : List (Nat × Nat), K[t]? = some (topsI ks) ∧ ∀ p ∈ ks, p.1 < t := by
  induction h with
  | nil a => intro t h1 h2; omega
  | @cons a t b ks fs hk ht hf i1 i2 =>
    intro q h1 h2
    by_cases h3 : q < t
    · exact i1 q h1 h3
    by_cases h4 : q = t
    · subst h4
      exact ⟨ks, ht, fun p hp => (hk.lt p hp).2⟩
    · exact i2 q (by omega) h2

theorem cnt_le {e : Ex} : ∀ {Es : List Ex}, e ∈ Es → e.cnt ≤ cnts Es
  | x :: Es, h => by
    have e5 : cnts (x :: Es) = x.cnt + cnts Es := by simp [cnts]
    rw [e5]
    rcases List.mem_cons.1 h with rfl | h
    · omega
    · have := cnt_le h; omega

/-- a place that bears a printed tree -/
def isR (w : World) (Es : List Ex) (k : Int) : Prop := ∃ (m : Nat) (e : Ex), k = m ∧ Es[m]? = some e ∧ e.fit w ∧ e.cnt ≤ 4000

def stOK (w : World) (Es : List Ex) (s : St) : Prop :=
  (s.kind = 1 ∧ s.name.size ≤ 32 ∧ isR w Es s.cond ∧ s.grant = -1) ∨ (s.kind = 2 ∧ isR w Es s.cond ∧ (s.grant = -1 ∨ isR w Es s.grant)) ∨ (s.kind = 3 ∧ s.cond = -1 ∧ (s.grant = -1 ∨ isR w Es s.grant))

structure WellP (N : List Nd) (L : List St) : Prop where
  n : N.length ≤ 4000
  m0 : 1 ≤ L.length
  m : L.length ≤ 600
  fields : ∀ x ∈ N, fieldsB x = true
  kids : ∀ (i : Nat) (x : Nd), N[i]? = some x → ∀ k ∈ x.kids, 0 ≤ k ∧ k < (i : Int)
  roots : ∀ s ∈ L, (s.cond = -1 ∨ (0 ≤ s.cond ∧ s.cond < N.length)) ∧ (s.grant = -1 ∨ (0 ≤ s.grant ∧ s.grant < N.length))
  stm : ∀ s ∈ L, (s.kind = 1 ∧ s.name.size ≤ 32 ∧ 0 ≤ s.cond ∧ s.grant = -1) ∨ (s.kind = 2 ∧ 0 ≤ s.cond) ∨ (s.kind = 3 ∧ s.cond = -1)
  cnt : ∀ (Es : List Ex), Es.length = N.length → (∀ j, (h : j < Es.length) → IsT N j Es[j]) → ∀ s ∈ L, ∀ k, (k = s.cond ∨ k = s.grant) → 0 ≤ k → ∀ e, Es[k.toNat]? = some e → e.cnt ≤ 4000

theorem stmtsI_all : ∀ {L : List St}, stmtsI L = true → ∀ s ∈ L, stmtI s = true
  | x :: L, h, s, hs => by
    simp only [stmtsI, Bool.and_eq_true] at h
    rcases List.mem_cons.1 hs with rfl | hs
    · exact h.1.1
    · exact stmtsI_all h.2 s hs

theorem wellP_of {N : List Nd} {L : List St} (h : wellI N L = true) : WellP N L := by
  simp only [wellI, Bool.and_eq_true, decide_eq_true_eq] at h
  obtain ⟨⟨⟨h1, ⟨h2, h3⟩, h4⟩, h5⟩, h6⟩ := h
  obtain ⟨S, hr, ht⟩ : ∃ S, runT (N.map Nd.kids) N.length [] 0 = some S ∧ topsI S = L.flatMap askedOf := by
    rw [shapeI] at h6
    cases hq : runT (N.map Nd.kids) N.length [] 0 with
    | none => rw [hq] at h6; cases h6
    | some S => rw [hq] at h6; exact ⟨S, rfl, of_decide_eq_true h6⟩
  obtain ⟨hF, _⟩ := forest_runT N.length (.nil 0) (fun p hp => (by cases hp)) hr
  rw [Nat.zero_add] at hF
  have asked : ∀ s ∈ L, ∀ k ∈ askedOf s, ∃ p ∈ S, k = (p.1 : Int) := fun s hs k hk => by
    have : k ∈ topsI S := by rw [ht]; exact List.mem_flatMap.2 ⟨s, hs, hk⟩
    rw [topsI] at this
    obtain ⟨p, hp, rfl⟩ := List.mem_map.1 this
    exact ⟨p, hp, rfl⟩
  have inR : ∀ s ∈ L, ∀ k ∈ askedOf s, 0 ≤ k ∧ k < N.length := fun s hs k hk => by
    obtain ⟨p, hp, rfl⟩ := asked s hs k hk
    have := (hF.lt p hp).2
    omega
  have ac : ∀ s ∈ L, s.kind ≠ 3 → s.cond ∈ askedOf s := fun s _ h => by rw [askedOf, if_pos h]; simp
  have ag : ∀ s ∈ L, s.grant ≠ -1 → s.grant ∈ askedOf s := fun s _ h => by rw [askedOf, if_pos h]; simp
  have sI := stmtsI_all h4
  have stm : ∀ s ∈ L, (s.kind = 1 ∧ s.name.size ≤ 32 ∧ 0 ≤ s.cond ∧ s.grant = -1) ∨ (s.kind = 2 ∧ 0 ≤ s.cond) ∨ (s.kind = 3 ∧ s.cond = -1) := fun s hs => by
    have h := sI s hs
    rw [stmtI] at h
    by_cases k1 : s.kind = 1
    · rw [if_pos k1] at h
      simp only [Bool.and_eq_true, decide_eq_true_eq] at h
      exact .inl ⟨k1, identB_size h.1, (inR s hs _ (ac s hs (by omega))).1, h.2⟩
    rw [if_neg k1] at h
    by_cases k2 : s.kind = 2
    · exact .inr (.inl ⟨k2, (inR s hs _ (ac s hs (by omega))).1⟩)
    rw [if_neg k2] at h
    by_cases k3 : s.kind = 3
    · rw [if_pos k3] at h
      simp only [Bool.and_eq_true, decide_eq_true_eq] at h
      exact .inr (.inr ⟨k3, h.2⟩)
    · rw [if_neg k3] at h
      cases h
  refine ⟨h1, h2, h3, fun x hx => List.all_eq_true.1 h5 x hx, fun i x hx k hk => ?_, fun s hs => ⟨?_, ?_⟩, stm, fun Es hl hE s hs k hk h0 e he => ?_⟩
  · have hi : i < N.length := (List.getElem?_eq_some_iff.1 hx).1
    obtain ⟨ks, e1, e2⟩ := forest_kids hF i (Nat.zero_le _) hi
    rw [List.getElem?_map, hx] at e1
    have e3 : x.kids = topsI ks := Option.some.inj e1
    rw [e3, topsI] at hk
    obtain ⟨p, hp, rfl⟩ := List.mem_map.1 hk
    have := e2 p hp
    omega
  · by_cases k3 : s.kind = 3
    · rcases stm s hs with h | h | h
      · omega
      · omega
      · exact .inl h.2
    · exact .inr (inR s hs _ (ac s hs k3))
  · by_cases g : s.grant = -1
    · exact .inl g
    · exact .inr (inR s hs _ (ag s hs g))
  · have hk2 : k ∈ askedOf s := by
      rcases hk with rfl | rfl
      · apply ac s hs
        intro k3
        rcases stm s hs with h | h | h <;> omega
      · exact ag s hs (by omega)
    obtain ⟨p, hp, rfl⟩ := asked s hs k hk2
    have hlt : ∀ q ∈ S, q.1 < Es.length := fun q hq => by rw [hl]; exact (hF.lt q hq).2
    have key := forest_cnt hF (S.attach.map (fun q => Es[q.1.1]'(hlt q.1 q.2))) (by simp) (fun j h1 h2 => by
      have := hE (S[j]).1 (hlt _ (List.getElem_mem h1))
      simpa using this)
    rw [Int.toNat_natCast] at he
    have hm : e ∈ S.attach.map (fun q => Es[q.1.1]'(hlt q.1 q.2)) := by
      refine List.mem_map.2 ⟨⟨p, hp⟩, List.mem_attach _ _, ?_⟩
      exact (List.getElem?_eq_some_iff.1 he).2
    have := cnt_le hm
    omega

theorem stOK_of {N : List Nd} {L : List St} {w : World} {Es : List Ex} (h : WellP N L) (hl : Es.length = N.length) (hE : ∀ j, (h : j < Es.length) → IsT N j Es[j]) (hf : ∀ e ∈ Es, e.fit w) : ∀ s ∈ L, stOK w Es s := fun s hs => by
  obtain ⟨r1, r2⟩ := h.roots s hs
  have get : ∀ k, (k = s.cond ∨ k = s.grant) → 0 ≤ k ∧ k < N.length → isR w Es k := fun k hk hb =>
    ⟨k.toNat, Es[k.toNat]'(by omega), by omega, List.getElem?_eq_getElem _, hf _ (List.getElem_mem _), h.cnt Es hl hE s hs k hk hb.1 _ (List.getElem?_eq_getElem (by omega))⟩
  have r2' : s.grant = -1 ∨ isR w Es s.grant := r2.imp id (fun hb => get _ (.inr rfl) hb)
  rcases h.stm s hs with ⟨k1, k2, k3, k4⟩ | ⟨k1, k2⟩ | ⟨k1, k2⟩
  · exact .inl ⟨k1, k2, get _ (.inl rfl) (r1.resolve_left (by omega)), k4⟩
  · exact .inr (.inl ⟨k1, get _ (.inl rfl) (r1.resolve_left (by omega)), r2'⟩)
  · exact .inr (.inr ⟨k1, k2, r2'⟩)

theorem exT_at {Es : List Ex} {m : Nat} {e : Ex} (h : Es[m]? = some e) : exT Es (m : Int) = e.pr := by
  rw [exT, Int.toNat_natCast, h]

theorem optV_at {Es : List Ex} {m : Nat} {e : Ex} (h : Es[m]? = some e) : optV Es (m : Int) = e.val := by
  rw [optV, if_neg (by omega), Int.toNat_natCast, h]

theorem grT_size {w : World} {Es : List Ex} {g : Int} (h : g = -1 ∨ isR w Es g) : (grT Es g).size ≤ 16000100 := by
  have e1 : (⟨#[103, 114, 97, 110, 116, 32]⟩ : ByteArray).size = 6 := rfl
  rcases h with rfl | ⟨m, e, rfl, h1, h2, h3⟩
  · exact (by decide : (⟨#[100, 101, 110, 121]⟩ : ByteArray).size ≤ 16000100)
  · rw [grT, if_neg (by omega), exT_at h1, ByteArray.size_append, e1]
    have := e.pr_size h2
    omega

theorem exT_size {w : World} {Es : List Ex} {g : Int} (h : isR w Es g) : (exT Es g).size ≤ 16000000 := by
  obtain ⟨m, e, rfl, h1, h2, h3⟩ := h
  rw [exT_at h1]
  have := e.pr_size h2
  omega

theorem stT_size {w : World} {Es : List Ex} {s : St} (h : stOK w Es s) : (stT Es s).size ≤ 40000000 ∧ 0 < (stT Es s).size := by
  have eA : (⟨#[108, 101, 116, 32]⟩ : ByteArray).size = 4 := rfl
  have eB : (⟨#[32, 61, 32]⟩ : ByteArray).size = 3 := rfl
  have eC : (⟨#[119, 104, 101, 110, 32]⟩ : ByteArray).size = 5 := rfl
  have eD : (⟨#[32, 61, 62, 32]⟩ : ByteArray).size = 4 := rfl
  have eE : (⟨#[101, 108, 115, 101, 32]⟩ : ByteArray).size = 5 := rfl
  have eF : (⟨#[59, 10]⟩ : ByteArray).size = 2 := rfl
  rcases h with ⟨k1, k2, k3, k4⟩ | ⟨k1, k2, k3⟩ | ⟨k1, k2, k3⟩
  · have := exT_size k3
    rw [stT, if_pos k1]
    simp only [ByteArray.size_append, eA, eB, eF]
    omega
  · have := exT_size k2
    have := grT_size k3
    rw [stT, if_neg (by omega), if_pos k1]
    simp only [ByteArray.size_append, eC, eD, eF]
    omega
  · have := grT_size k3
    rw [stT, if_neg (by omega), if_neg (by omega)]
    simp only [ByteArray.size_append, eE, eF]
    omega

/-- the whole text -/
def prT (Es : List Ex) (L : List St) : ByteArray := catB (L.map (stT Es))

theorem prT_snoc (Es : List Ex) (L : List St) (k : Nat) (h : k < L.length) : prT Es (L.take (k + 1)) = prT Es (L.take k) ++ stT Es L[k] := by
  rw [prT, prT, List.take_succ_eq_append_getElem h, List.map_append, List.map_cons, List.map_nil, catB_snoc]

theorem prT_size {w : World} {Es : List Ex} : ∀ {L : List St}, (∀ s ∈ L, stOK w Es s) → (prT Es L).size ≤ 40000000 * L.length
  | [], _ => by simp [prT, catB, ByteArray.size]
  | s :: L, h => by
    have h1 := (stT_size (h s (List.mem_cons_self ..))).1
    have h2 := prT_size (L := L) (fun x hx => h x (List.mem_cons_of_mem _ hx))
    rw [prT] at h2
    rw [prT, List.map_cons, catB, ByteArray.size_append, List.length_cons]
    omega

theorem prT_pos {w : World} {Es : List Ex} : ∀ {L : List St}, 1 ≤ L.length → (∀ s ∈ L, stOK w Es s) → (prT Es L).size ≠ 0
  | [], h, _ => by simp at h
  | s :: L, _, h => by
    have h1 := (stT_size (h s (List.mem_cons_self ..))).2
    rw [prT, List.map_cons, catB, ByteArray.size_append]
    omega

end Go.Proofs.YtbdplgelkgngmaaGreatDoor

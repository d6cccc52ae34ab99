/-
  What a compiler writes is small. Own work.
-/
import Derived.Test.YtpbopjgmiaoomaaGreatDoorMXAX
namespace Go.Proofs.YtpbopjgmiaoomaaGreatDoor
open Go.RowKit
set_option linter.unusedVariables false

theorem okV_zero : okV zeroV := ⟨by decide, by simp [zeroV], fun s hs => absurd hs (by simp [zeroV])⟩

theorem okV_bool (n : Int) : okV ⟨1, n, ⟨#[]⟩, []⟩ := ⟨by show (⟨#[]⟩ : ByteArray).size ≤ 255; decide, by simp, fun s hs => absurd hs (by simp)⟩

/-- the values of a tree's instructions are small -/
theorem treeI_ok {N : List Nd} (hF : ∀ x ∈ N, fieldsT x = true) {i : Nat} {e : Ex} (t : IsT N i e) : ∀ a, ∀ j ∈ treeI e a, okV j.val := by
  have fld : ∀ {i : Nat} {x : Nd}, N[i]? = some x → tfB x = true := fun h => by
    have := hF _ (List.mem_of_getElem? h)
    rw [fieldsT, Bool.and_eq_true] at this
    exact this.2
  have app : ∀ {A B : List I5}, (∀ j ∈ A, okV j.val) → (∀ j ∈ B, okV j.val) → ∀ j ∈ A ++ B, okV j.val := fun hA hB j hj => (List.mem_append.1 hj).elim (hA j) (hB j)
  have one : ∀ {i : I5}, okV i.val → ∀ j ∈ [i], okV j.val := fun h j hj => by rw [List.mem_singleton.1 hj]; exact h
  induction t with
  | int h ho hk => exact fun a => one ⟨by show (⟨#[]⟩ : ByteArray).size ≤ 255; decide, by simp [exV], fun s hs => absurd hs (by simp [exV])⟩
  | @text i x h ho hk =>
    have hq := fld h
    rw [tfB, if_neg (by omega), if_neg (by omega), if_neg (by omega), wfB, if_neg (by omega), if_pos ho] at hq
    simp only [Bool.and_eq_true, decide_eq_true_eq] at hq
    have hs : x.text.size ≤ 32 := by
      have := hq.1.1
      rw [quotedB, Bool.and_eq_true, decide_eq_true_eq] at this
      exact this.1
    exact fun a => one ⟨by show x.text.size ≤ 255; omega, by simp [exV], fun s hs => absurd hs (by simp [exV])⟩
  | bool h ho hk => exact fun a => one (okV_bool _)
  | @set i x h ho hk a n c =>
    have hq := fld h
    rw [tfB, if_neg (by omega), if_neg (by omega), if_neg (by omega), wfB, if_neg (by omega), if_neg (by omega), if_neg (by omega), if_pos ho] at hq
    simp only [Bool.and_eq_true, decide_eq_true_eq] at hq
    obtain ⟨s1, s2⟩ := setB_sizes hq.1.1
    exact fun a => one ⟨by show (⟨#[]⟩ : ByteArray).size ≤ 255; decide, by show x.names.length ≤ 255; omega, fun s hs => by have := s2 s hs; omega⟩
  | name h ho hk =>
    have hq := fld h
    rw [tfB, if_pos ho] at hq
    cases hq
  | attr h ho hk => exact fun a => one okV_zero
  | lett h ho hk => exact fun a => one okV_zero
  | un h ho hk hi t ih => exact fun a => app (ih a) (one okV_zero)
  | bin h ho hk hi t u ih1 ih2 =>
    intro a
    rw [treeI]
    split
    · exact app (app (app (app (ih1 _) (one okV_zero)) (ih2 _)) (one okV_zero)) (one (okV_bool _))
    · split
      · exact app (app (app (app (ih1 _) (one okV_zero)) (one (okV_bool _))) (one okV_zero)) (ih2 _)
      · exact app (app (ih1 _) (ih2 _)) (one okV_zero)
  | ite h ho hk hi t u v ih1 ih2 ih3 => exact fun a => app (app (app (app (ih1 _) (one okV_zero)) (ih2 _)) (one okV_zero)) (ih3 _)

theorem allI5_ok {N : List Nd} (hF : ∀ x ∈ N, fieldsT x = true) {Es : List Ex} (hEl : Es.length = N.length) (hE : ∀ j, (h : j < Es.length) → IsT N j Es[j]) : ∀ (L : List St), (∀ s ∈ L, (s.cond = -1 ∨ (0 ≤ s.cond ∧ s.cond < Es.length)) ∧ (s.grant = -1 ∨ (0 ≤ s.grant ∧ s.grant < Es.length))) → (∀ s ∈ L, s.kind = 3 ∨ s.cond ≠ -1) → ∀ k a, ∀ j ∈ allI5 Es k a L, okV j.val
  | [], _, _, k, a => fun j hj => absurd hj (by simp [allI5])
  | s :: L, hR, hK, k, a => by
    have ih := allI5_ok hF hEl hE L (fun x hx => hR x (List.mem_cons_of_mem _ hx)) (fun x hx => hK x (List.mem_cons_of_mem _ hx))
    obtain ⟨h1, h2⟩ := hR s (List.mem_cons_self ..)
    have hk := hK s (List.mem_cons_self ..)
    have app : ∀ {A B : List I5}, (∀ j ∈ A, okV j.val) → (∀ j ∈ B, okV j.val) → ∀ j ∈ A ++ B, okV j.val := fun hA hB j hj => (List.mem_append.1 hj).elim (hA j) (hB j)
    have one : ∀ {i : I5}, okV i.val → ∀ j ∈ [i], okV j.val := fun h j hj => by rw [List.mem_singleton.1 hj]; exact h
    have at_ : ∀ c : Int, 0 ≤ c ∧ c < Es.length → ∀ a, ∀ j ∈ treeI (exAt Es c) a, okV j.val := fun c hc => by
      have hc' : c.toNat < Es.length := by omega
      have e : exAt Es c = Es[c.toNat] := by rw [exAt, List.getD_eq_getElem?_getD, List.getElem?_eq_getElem hc']; rfl
      rw [e]
      exact treeI_ok hF (hE _ hc')
    have dec : ∀ a, ∀ j ∈ decI5 Es s.grant a, okV j.val := fun a => by
      rw [decI5]
      split
      · exact one okV_zero
      · rename_i hg
        exact app (at_ _ (h2.resolve_left hg) _) (one okV_zero)
    rw [allI5]
    refine app ?_ (ih _ _)
    rw [stI5]
    split
    · exact app (at_ _ (by omega) _) (one okV_zero)
    · split
      · exact app (app (at_ _ (by omega) _) (one okV_zero)) (dec _)
      · exact dec _

theorem linkI_ok : ∀ (L : List I5) (s : Cs), (∀ j ∈ L, okV j.val) → (∀ v ∈ s.pool, okV v) → ∀ v ∈ (linkI s L).pool, okV v
  | [], s, _, h => h
  | i :: L, s, hL, h => by
    refine linkI_ok L (putI s i) (fun j hj => hL j (List.mem_cons_of_mem _ hj)) (fun v hv => ?_)
    unfold putI at hv
    split at hv
    · dsimp only at hv
      unfold poolW at hv
      split at hv
      · exact h v hv
      · rcases List.mem_append.1 hv with q | q
        · exact h v q
        · rw [List.mem_singleton.1 q]; exact hL i (List.mem_cons_self ..)
    · exact h v hv

theorem linkI_pool : ∀ (L : List I5) (s : Cs), (linkI s L).pool.length ≤ s.pool.length + L.length
  | [], s => Nat.le_refl _
  | i :: L, s => by
    have h1 := linkI_pool L (putI s i)
    have h2 := putI_grow s i
    show (linkI (putI s i) L).pool.length ≤ _
    rw [List.length_cons]
    omega

/-- a code is small -/
theorem IsCp.small {N : List Nd} {L : List St} {T : List Int} {c : Cs} (h : IsCp N L T c) : c.pool.length ≤ 65535 ∧ (∀ v ∈ c.pool, okV v) ∧ c.ins.length ≤ 65535 ∧ c.slots ≤ 600 := by
  rcases h with ⟨_, rfl⟩ | ⟨hv, Es, hEl, hE, rfl⟩
  · exact ⟨by simp, fun v hv => absurd hv (by simp), by simp, by simp⟩
  · have hw : wellT N L = true := by
      rcases hv with ⟨_, h⟩ | ⟨h, _⟩
      · cases h
      · exact h
    have W := wellPT_of hw
    have hR : ∀ s ∈ L, (s.cond = -1 ∨ (0 ≤ s.cond ∧ s.cond < Es.length)) ∧ (s.grant = -1 ∨ (0 ≤ s.grant ∧ s.grant < Es.length)) := by rw [hEl]; exact W.roots
    have hK : ∀ t ∈ L, t.kind = 3 ∨ t.cond ≠ -1 := fun t ht => by have := W.stm t ht; omega
    have hz : szL Es L ≤ 13200 := by have := szL_le Es L hR; have := cntL_le hw hEl hE; have := W.m; omega
    have hl := cpAll_len Es L ⟨[], 0, []⟩ hK
    simp only [List.length_nil, Nat.zero_add] at hl
    have hm := W.m
    refine ⟨Nat.le_trans hl.2.1 (by omega), ?_, Nat.le_trans hl.1 (by omega), Nat.le_trans hl.2.2 hm⟩
    rw [codeC_eq]
    exact linkI_ok _ _ (allI5_ok W.fields hEl hE L hR hK 0 0) (fun v hv => absurd hv (by simp))

end Go.Proofs.YtpbopjgmiaoomaaGreatDoor

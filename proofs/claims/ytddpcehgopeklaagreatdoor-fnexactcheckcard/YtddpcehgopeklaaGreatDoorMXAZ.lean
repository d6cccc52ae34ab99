/-
  VPM0, QJ1, VPM, QM0. Own work.
-/
import Derived.Test.YtddpcehgopeklaaGreatDoorVPL
import Derived.Test.YtddpcehgopeklaaGreatDoorMXAR
import Derived.Test.YtddpcehgopeklaaGreatDoorMXAI
import Derived.Test.YtddpcehgopeklaaGreatDoorMXAV
namespace Go.Proofs.YtddpcehgopeklaaGreatDoor
open Go.RowKit
set_option linter.unusedVariables false

def shapeI (N : List Nd) (L : List St) : Bool := match runT (N.map Nd.kids) N.length [] 0 with
  | none => false
  | some S => decide (topsI S = L.flatMap askedOf)

theorem row2 {w : World} {b : Nat} {v0 v1 : Value} {t : TypeId} (R : Row w b #[v0, v1] t) : w.cell? ⟨b, 0, none⟩ = some v0 ∧ w.cell? ⟨b, 1, none⟩ = some v1 := ⟨R.cell 0, R.cell 1⟩

theorem runT_len {K : List (List Int)} : ∀ {k : Nat} {S : List (Nat × Nat)}, runT K k [] 0 = some S → S.length ≤ k ∧ k ≤ K.length ∨ k = 0 ∧ S = []
  | 0, S, h => by right; rw [runT] at h; cases h; exact ⟨rfl, rfl⟩
  | k + 1, S, h => by
    left
    rw [runT_add K k 1 [] 0] at h
    cases h1 : runT K k [] 0 with
    | none => rw [h1] at h; cases h
    | some S1 =>
      rw [h1] at h
      change runT K 1 S1 (0 + k) = some S at h
      rw [Nat.zero_add, runT] at h
      cases h2 : K[k]? with
      | none => rw [h2] at h; cases h
      | some ks =>
        rw [h2] at h
        dsimp only at h
        cases h3 : stepT S1 k ks with
        | none => rw [h3] at h; cases h
        | some S2 =>
          rw [h3] at h
          change some S2 = some S at h
          cases h
          have hl := (List.getElem?_eq_some_iff.1 h2).1
          obtain ⟨A, B, e1, _, _, e2⟩ := stepT_of h3
          have ih := runT_len h1
          rw [e2, List.length_append, List.length_singleton]
          rcases ih with ⟨i1, i2⟩ | ⟨i1, i2⟩
          · rw [e1, List.length_append] at i1; omega
          · rw [e1] at i2; have := List.append_eq_nil_iff.1 i2; rw [this.1]; simp; omega

end Go.Proofs.YtddpcehgopeklaaGreatDoor

namespace Go.Proofs.YtddpcehgopeklaaGreatDoor
open Go.RowKit
set_option linter.unusedVariables false

theorem identB_size {s : ByteArray} (h : identB s = true) : s.size ≤ 32 := by
  unfold identB at h
  have e : (toL s).length = s.size := by simp [toL]
  cases hs : toL s with
  | nil => rw [hs] at e; simp at e; omega
  | cons c r =>
    rw [hs] at h
    simp only [Bool.and_eq_true, decide_eq_true_eq] at h
    rw [← e, hs]
    exact h.1.1.1

theorem quotedB_size {s : ByteArray} (h : quotedB s = true) : s.size ≤ 32 := by
  unfold quotedB at h
  simp only [Bool.and_eq_true, decide_eq_true_eq] at h
  exact h.1

theorem setB_sizesQ {ss : List ByteArray} (h : setB ss = true) : ss.length ≤ 64 ∧ ∀ x ∈ ss, x.size ≤ 32 := by
  unfold setB at h
  simp only [Bool.and_eq_true, decide_eq_true_eq] at h
  refine ⟨h.1, fun x hx => ?_⟩
  have := List.all_eq_true.1 h.2.1 x hx
  simp only [vnB, Bool.and_eq_true, decide_eq_true_eq] at this
  omega

theorem kids_at {N : List Nd} {i : Nat} {Es : List Ex} (hl : Es.length = i) (hE : ∀ j, (h : j < Es.length) → IsT N j Es[j]) {k : Int} (hk : 0 ≤ k ∧ k < i) : ∃ (m : Nat) (e : Ex), k = m ∧ m < i ∧ Es[m]? = some e ∧ IsT N m e := by
  refine ⟨k.toNat, Es[k.toNat]'(by omega), by omega, by omega, List.getElem?_eq_getElem _, hE _ _⟩

theorem mkT_of {N : List Nd} {w : World} {i : Nat} {x : Nd} {an : Option Addr} {nn cn : Nat} (hx : N[i]? = some x) (hf : fieldsB x = true) (hk : ∀ k ∈ x.kids, 0 ≤ k ∧ k < i) (hnum : x.num ≤ 9223372036854775807) {Es : List Ex} (hl : Es.length = i)
    (hE : ∀ j, (h : j < Es.length) → IsT N j Es[j]) (hfit : ∀ e ∈ Es, e.fit w) (hS : Strs w an nn cn x.names) : ∃ e, MkT Es i x an nn cn e ∧ IsT N i e ∧ e.fit w := by
  unfold fieldsB at hf
  rw [Bool.and_eq_true, decide_eq_true_eq] at hf
  obtain ⟨hkn, hf⟩ := hf
  have hkids : ∀ n : Nat, kidN x.op = n → x.kids.length = n := fun n e => by omega
  have none' : (1 ≤ x.op ∧ x.op ≤ 7) → x.kids = [] := fun h => List.eq_nil_of_length_eq_zero (hkids 0 (by rw [kidN, if_pos h]; rfl))
  have fitAt : ∀ {m : Nat} {e : Ex}, Es[m]? = some e → e.fit w := fun h => hfit _ (List.mem_of_getElem? h)
  by_cases h1 : x.op = 1
  · rw [if_pos h1] at hf
    simp only [Bool.and_eq_true, decide_eq_true_eq] at hf
    exact ⟨_, .int h1, .int hx h1 (none' (by omega)), hf.1.1, hnum⟩
  rw [if_neg h1] at hf
  by_cases h2 : x.op = 2
  · rw [if_pos h2] at hf
    simp only [Bool.and_eq_true, decide_eq_true_eq] at hf
    exact ⟨_, .text h2, .text hx h2 (none' (by omega)), quotedB_size hf.1.1⟩
  rw [if_neg h2] at hf
  by_cases h3 : x.op = 3
  · exact ⟨_, .bool h3, .bool hx h3 (none' (by omega)), trivial⟩
  rw [if_neg h3] at hf
  by_cases h4 : x.op = 4
  · rw [if_pos h4] at hf
    simp only [Bool.and_eq_true, decide_eq_true_eq] at hf
    obtain ⟨s1, s2⟩ := setB_sizesQ hf.1.1
    exact ⟨_, .set h4, .set hx h4 (none' (by omega)) an nn cn, hS, by have := hS.len; omega, s2⟩
  rw [if_neg h4] at hf
  by_cases h5 : x.op = 5
  · rw [if_pos h5] at hf
    simp only [Bool.and_eq_true, decide_eq_true_eq] at hf
    exact ⟨_, .name h5, .name hx h5 (none' (by omega)), identB_size hf.1.1⟩
  rw [if_neg h5] at hf
  by_cases h6 : x.op = 6 ∨ x.op = 7
  · rw [if_pos h6] at hf
    cases hf
  by_cases h8 : 8 ≤ x.op ∧ x.op ≤ 10
  · have hl1 := hkids 1 (by rw [kidN, if_neg (by omega), if_pos h8]; rfl)
    match hkk : x.kids, hl1 with
    | [k], _ =>
      obtain ⟨m, e, rfl, hm, g1, g2⟩ := kids_at hl hE (hk k (by rw [hkk]; simp))
      exact ⟨_, .un h8 hkk g1, .un hx h8 hkk hm g2, h8, fitAt g1⟩
  by_cases h11 : 11 ≤ x.op ∧ x.op ≤ 26
  · have hl1 := hkids 2 (by rw [kidN, if_neg (by omega), if_neg h8, if_pos h11]; rfl)
    match hkk : x.kids, hl1 with
    | [k, l], _ =>
      obtain ⟨m, e, rfl, hm, g1, g2⟩ := kids_at hl hE (hk k (by rw [hkk]; simp))
      obtain ⟨n, f, rfl, hn, j1, j2⟩ := kids_at hl hE (hk l (by rw [hkk]; simp))
      exact ⟨_, .bin h11 hkk g1 j1, .bin hx h11 hkk ⟨hm, hn⟩ g2 j2, h11, fitAt g1, fitAt j1⟩
  by_cases h27 : x.op = 27
  · have hl1 := hkids 3 (by rw [kidN, if_neg (by omega), if_neg h8, if_neg h11, if_pos h27]; rfl)
    match hkk : x.kids, hl1 with
    | [k, l, o], _ =>
      obtain ⟨m, e, rfl, hm, g1, g2⟩ := kids_at hl hE (hk k (by rw [hkk]; simp))
      obtain ⟨n, f, rfl, hn, j1, j2⟩ := kids_at hl hE (hk l (by rw [hkk]; simp))
      obtain ⟨p, g, rfl, hp, q1, q2⟩ := kids_at hl hE (hk o (by rw [hkk]; simp))
      exact ⟨_, .ite h27 hkk g1 j1 q1, .ite hx h27 hkk ⟨hm, hn, hp⟩ g2 j2 q2, fitAt g1, fitAt j1, fitAt q1⟩
  · rw [kidN, if_neg (by omega), if_neg h8, if_neg h11, if_neg h27] at hkn
    omega

theorem makes_written {w0 : World} {N : List Nd} (hF : ∀ x ∈ N, fieldsB x = true) (hN : ∀ x ∈ N, x.num ≤ 9223372036854775807) (hK : ∀ (i : Nat) (x : Nd), N[i]? = some x → ∀ k ∈ x.kids, 0 ≤ k ∧ k < (i : Int)) : Makes w0 N (fun e => e.fit w0) :=
  fun k x an nn cn Es hx hl hE hf hS => mkT_of (w := w0) hx (hF _ (List.mem_of_getElem? hx)) (hK k _ hx) (hN _ (List.mem_of_getElem? hx)) hl hE hf hS

end Go.Proofs.YtddpcehgopeklaaGreatDoor

namespace Go.Proofs.YtddpcehgopeklaaGreatDoor
open Go.RowKit
set_option linter.unusedVariables false

/-- what the program answers -/
def wellI (N : List Nd) (L : List St) : Bool := decide (N.length ≤ 4000) && (decide (1 ≤ L.length ∧ L.length ≤ 600) && stmtsI L) && N.all fieldsB && shapeI N L

set_option maxRecDepth 100000 in
set_option maxHeartbeats 3200000 in
theorem wellFormed_any (a b : Option Addr) (n c m d : Nat) (N : List Nd) (L : List St) (w : World) (h1 : Nds w a n c N) (h2 : Sts w b m d L) (hT : TabOK w) :
    Calls Tryz.prog 63 #[.agg #[.slice a n c, .slice b m d], .func (.func 64) #[] #[]] w fun e w' => e = .returned (.bool (wellI N L)) ∧ Below w.heap.size w w' := by
  have s1 := h1.small
  have s2 := h2.small
  have HN := hide h1.len
  have HL := hide h2.len
  have HF := hide (show wellI N L = (decide (n ≤ 4000) && (decide (1 ≤ m ∧ m ≤ 600) && stmtsI L) && N.all fieldsB && shapeI N L) by rw [wellI, h1.len, h2.len])
  have R0 := Row.new w #[.slice a n c, .slice b m d] 37
  have B0 := (Below.refl w.heap.size w).alloc (Nat.le_refl _) (.cells #[.slice a n c, .slice b m d] 37)
  have N0 := h1.below B0 (Nat.le_refl _)
  have L0 := h2.below B0 (Nat.le_refl _)
  have T0 := hT.below B0 (Nat.le_refl _)
  go_enter Tryz.func63, Tryz.ntmps63
  by_cases hn : 4000 < n
  · have ih : (4000 : Int) < (n : Int) := by omega
    have HX := hide (show wellI N L = false by rw [unhide HF, decide_eq_false (by omega)]; rfl)
    clear hn
    go_wp2_with fail
    go_ret
    exact ⟨ret_bool (unhide HX).symm, B0⟩
  have ih : ¬ ((4000 : Int) < (n : Int)) := by omega
  have HG := hide (show wellI N L = ((decide (1 ≤ m ∧ m ≤ 600) && stmtsI L) && N.all fieldsB && shapeI N L) by rw [unhide HF, decide_eq_true (by omega)]; rfl)
  clear hn HF
  generalize hv1 : (decide (1 ≤ m ∧ m ≤ 600) && stmtsI L) = v1 at HG
  have Hv1 := hide hv1
  clear hv1
  cases v1
  · have HX := hide (show wellI N L = false by rw [unhide HG]; rfl)
    go_wp2_with (go_at_call 84; refine (validStmts_any _ _ _ _ _ L0).mono ?_; rintro e w2 ⟨rfl, hb2⟩; rw [unhide Hv1])
    go_ret
    exact ⟨ret_bool (unhide HX).symm, B0.trans (hb2.mono B0.size)⟩
  · have HG2 := hide (show wellI N L = (N.all fieldsB && shapeI N L) by rw [unhide HG, Bool.true_and])
    clear HG
    generalize hv2 : N.all fieldsB = v2 at HG2
    have Hv2 := hide hv2
    clear hv2
    cases v2
    · have HX := hide (show wellI N L = false by rw [unhide HG2]; rfl)
      go_wp2_with (first
        | (go_at_call 84; refine (validStmts_any _ _ _ _ _ L0).mono ?_; rintro e w2 ⟨rfl, hb2⟩; rw [unhide Hv1]; obtain ⟨q0, q1⟩ := row2 (R0.after hb2 (Nat.le_refl _)))
        | (go_at_call 85; refine (validNodes_any _ _ _ _ _ (N0.below hb2 (Nat.le_refl _)) (T0.below hb2 (Nat.le_refl _))).mono ?_; rintro e w3 ⟨rfl, hb3⟩; rw [unhide Hv2]))
      go_ret
      exact ⟨ret_bool (unhide HX).symm, B0.trans ((hb2.trans (hb3.mono hb2.size)).mono B0.size)⟩
    · have HG3 := hide (show wellI N L = shapeI N L by rw [unhide HG2, Bool.true_and])
      clear HG2
      have HS := hide (show shapeI N L = match runT (N.map Nd.kids) n [] 0 with | none => false | some S => decide (topsI S = L.flatMap askedOf) by rw [shapeI, unhide HN]; try rfl)
      have HT := hide (fun S => (runT_len (K := N.map Nd.kids) (k := n) (S := S)))
      generalize hrn : runT (N.map Nd.kids) n [] 0 = rn at HS HT
      have Hrn := hide hrn
      clear hrn
      cases rn with
      | none =>
        have HX := hide (show wellI N L = false by rw [unhide HG3, unhide HS])
        go_wp2_with (first
          | (go_at_call 84; refine (validStmts_any _ _ _ _ _ L0).mono ?_; rintro e w2 ⟨rfl, hb2⟩; rw [unhide Hv1]; obtain ⟨q0, q1⟩ := row2 (R0.after hb2 (Nat.le_refl _)))
          | (go_at_call 85; refine (validNodes_any _ _ _ _ _ (N0.below hb2 (Nat.le_refl _)) (T0.below hb2 (Nat.le_refl _))).mono ?_; rintro e w3 ⟨rfl, hb3⟩; rw [unhide Hv2]; have hb3' := hb2.trans (hb3.mono hb2.size); obtain ⟨r0, r1⟩ := row2 (R0.after hb3' (Nat.le_refl _)))
          | (go_at_call 86; refine (topsOf_any _ _ _ _ _ (N0.below hb3' (Nat.le_refl _))).mono ?_; rw [unhide Hrn]; rintro e w4 ⟨he, hb4⟩; change e = _ at he; subst he))
        go_ret
        exact ⟨ret_bool (unhide HX).symm, B0.trans ((hb3'.trans (hb4.mono hb3'.size)).mono B0.size)⟩
      | some S =>
        obtain ⟨AL, HAL⟩ : ∃ AL, Hid (L.flatMap askedOf = AL) := ⟨_, hide rfl⟩
        obtain ⟨TL, HTL⟩ : ∃ TL, Hid (topsI S = TL) := ⟨_, hide rfl⟩
        have HX := hide (show wellI N L = decide (TL = AL) by rw [unhide HG3, unhide HS, unhide HAL]; show decide (topsI S = AL) = _; rw [unhide HTL])
        have hSl : S.length ≤ n := by
          rcases unhide HT S rfl with k | ⟨_, k⟩
          · exact k.1
          · subst k; simp
        have hm6 : m ≤ 600 := (of_decide_eq_true (Bool.and_eq_true _ _ ▸ unhide Hv1).1).2
        have hal : AL.length ≤ 2 * m := by have := asked_len L; rw [unhide HL, unhide HAL] at this; exact this
        go_wp2_with (first
          | (go_at_call 84; refine (validStmts_any _ _ _ _ _ L0).mono ?_; rintro e w2 ⟨rfl, hb2⟩; rw [unhide Hv1]; obtain ⟨q0, q1⟩ := row2 (R0.after hb2 (Nat.le_refl _)))
          | (go_at_call 85; refine (validNodes_any _ _ _ _ _ (N0.below hb2 (Nat.le_refl _)) (T0.below hb2 (Nat.le_refl _))).mono ?_; rintro e w3 ⟨rfl, hb3⟩; rw [unhide Hv2]; have hb3' := hb2.trans (hb3.mono hb2.size); obtain ⟨r0, r1⟩ := row2 (R0.after hb3' (Nat.le_refl _)))
          | (go_at_call 86; refine (topsOf_any _ _ _ _ _ (N0.below hb3' (Nat.le_refl _))).mono ?_; rw [unhide Hrn]; rintro e w4 ⟨⟨v, he, O4⟩, hb4⟩; subst he; rw [unhide HTL] at O4; obtain ⟨xv, cv, rfl, _⟩ := owns_form2 O4; have hb4' := hb3'.trans (hb4.mono hb3'.size); obtain ⟨t0, t1⟩ := row2 (R0.after hb4' (Nat.le_refl _)); have I4 := ints_of_row O4 (by omega))
          | (go_at_call 88; refine (topsAsked_any _ _ _ _ _ (L0.below hb4' (Nat.le_refl _))).mono ?_; rintro e w5 ⟨v, rfl, O5, hb5⟩; rw [unhide HAL] at O5; obtain ⟨xu, cu, rfl, _⟩ := owns_form2 O5; have I5 := ints_of_row O5 (by omega); have I6 := I4.below hb5 (Nat.le_refl _); have hb5' := hb4'.trans (hb5.mono hb4'.size))
          | (go_at_call 87; refine (equalI_any _ _ _ _ _ _ _ _ _ I6 I5).mono ?_; rintro e w6 ⟨rfl, hb6⟩))
        go_ret
        exact ⟨ret_bool (unhide HX).symm, B0.trans ((hb5'.trans (hb6.mono hb5'.size)).mono B0.size)⟩

set_option maxHeartbeats 800000 in
theorem iValidPolicy_any (a b : Option Addr) (n c m d : Nat) (N : List Nd) (L : List St) (w : World) (h1 : Nds w a n c N) (h2 : Sts w b m d L) (hT : TabOK w) :
    Calls Tryz.prog 40 #[.agg #[.slice a n c, .slice b m d]] w fun e w' => e = .returned (.bool (wellI N L)) ∧ Below w.heap.size w w' := by
  have B0 := (Below.refl w.heap.size w).alloc (Nat.le_refl _) (.cells #[.slice a n c, .slice b m d] 37)
  go_enter Tryz.func40, Tryz.ntmps40
  go_wp2_with (go_at_call 63; refine (wellFormed_any _ _ _ _ _ _ _ _ _ (h1.below B0 (Nat.le_refl _)) (h2.below B0 (Nat.le_refl _)) (hT.below B0 (Nat.le_refl _))).mono ?_; rintro e w2 ⟨rfl, hb2⟩)
  go_ret
  exact ⟨rfl, B0.trans (hb2.mono B0.size)⟩

end Go.Proofs.YtddpcehgopeklaaGreatDoor

namespace Go.Proofs.YtddpcehgopeklaaGreatDoor
open Go.RowKit
set_option linter.unusedVariables false

theorem forest_kids {K : List (List Int)} {a b : Nat} {fs : List (Nat × Nat)} (h : Forest K a fs b) : ∀ t, a ≤ t → t < b → ∃ ks : List (Nat × Nat), K[t]? = some (topsI ks) ∧ ∀ p ∈ ks, p.1 < t := by
  induction h with
  | nil a => intro t h1 h2; omega
  | @cons a t b ks fs hk ht hf i1 i2 =>
    intro q h1 h2
    by_cases h3 : q < t
    · exact i1 q h1 h3
    by_cases h4 : q = t
    · subst h4
      exact ⟨ks, ht, fun p hp => (hk.lt p hp).2⟩
    · exact i2 q (by omega) h2

theorem cnt_le {e : Ex} : ∀ {Es : List Ex}, e ∈ Es → e.cnt ≤ cnts Es
  | x :: Es, h => by
    have e5 : cnts (x :: Es) = x.cnt + cnts Es := by simp [cnts]
    rw [e5]
    rcases List.mem_cons.1 h with rfl | h
    · omega
    · have := cnt_le h; omega

structure WellP (N : List Nd) (L : List St) : Prop where
  n : N.length ≤ 4000
  m0 : 1 ≤ L.length
  m : L.length ≤ 600
  fields : ∀ x ∈ N, fieldsB x = true
  kids : ∀ (i : Nat) (x : Nd), N[i]? = some x → ∀ k ∈ x.kids, 0 ≤ k ∧ k < (i : Int)
  roots : ∀ s ∈ L, (s.cond = -1 ∨ (0 ≤ s.cond ∧ s.cond < N.length)) ∧ (s.grant = -1 ∨ (0 ≤ s.grant ∧ s.grant < N.length))
  stm : ∀ s ∈ L, (s.kind = 1 ∧ s.name.size ≤ 32 ∧ 0 ≤ s.cond ∧ s.grant = -1) ∨ (s.kind = 2 ∧ 0 ≤ s.cond) ∨ (s.kind = 3 ∧ s.cond = -1)
  cnt : ∀ (Es : List Ex), Es.length = N.length → (∀ j, (h : j < Es.length) → IsT N j Es[j]) → ∀ s ∈ L, ∀ k, (k = s.cond ∨ k = s.grant) → 0 ≤ k → ∀ e, Es[k.toNat]? = some e → e.cnt ≤ 4000

theorem stmtsI_all : ∀ {L : List St}, stmtsI L = true → ∀ s ∈ L, stmtI s = true
  | x :: L, h, s, hs => by
    simp only [stmtsI, Bool.and_eq_true] at h
    rcases List.mem_cons.1 hs with rfl | hs
    · exact h.1.1
    · exact stmtsI_all h.2 s hs

theorem wellP_of {N : List Nd} {L : List St} (h : wellI N L = true) : WellP N L := by
  simp only [wellI, Bool.and_eq_true, decide_eq_true_eq] at h
  obtain ⟨⟨⟨h1, ⟨h2, h3⟩, h4⟩, h5⟩, h6⟩ := h
  obtain ⟨S, hr, ht⟩ : ∃ S, runT (N.map Nd.kids) N.length [] 0 = some S ∧ topsI S = L.flatMap askedOf := by
    rw [shapeI] at h6
    cases hq : runT (N.map Nd.kids) N.length [] 0 with
    | none => rw [hq] at h6; cases h6
    | some S => rw [hq] at h6; exact ⟨S, rfl, of_decide_eq_true h6⟩
  obtain ⟨hF, _⟩ := forest_runT N.length (.nil 0) (fun p hp => (by cases hp)) hr
  rw [Nat.zero_add] at hF
  have asked : ∀ s ∈ L, ∀ k ∈ askedOf s, ∃ p ∈ S, k = (p.1 : Int) := fun s hs k hk => by
    have : k ∈ topsI S := by rw [ht]; exact List.mem_flatMap.2 ⟨s, hs, hk⟩
    rw [topsI] at this
    obtain ⟨p, hp, rfl⟩ := List.mem_map.1 this
    exact ⟨p, hp, rfl⟩
  have inR : ∀ s ∈ L, ∀ k ∈ askedOf s, 0 ≤ k ∧ k < N.length := fun s hs k hk => by
    obtain ⟨p, hp, rfl⟩ := asked s hs k hk
    have := (hF.lt p hp).2
    omega
  have ac : ∀ s ∈ L, s.kind ≠ 3 → s.cond ∈ askedOf s := fun s _ h => by rw [askedOf, if_pos h]; simp
  have ag : ∀ s ∈ L, s.grant ≠ -1 → s.grant ∈ askedOf s := fun s _ h => by rw [askedOf, if_pos h]; simp
  have sI := stmtsI_all h4
  have stm : ∀ s ∈ L, (s.kind = 1 ∧ s.name.size ≤ 32 ∧ 0 ≤ s.cond ∧ s.grant = -1) ∨ (s.kind = 2 ∧ 0 ≤ s.cond) ∨ (s.kind = 3 ∧ s.cond = -1) := fun s hs => by
    have h := sI s hs
    rw [stmtI] at h
    by_cases k1 : s.kind = 1
    · rw [if_pos k1] at h
      simp only [Bool.and_eq_true, decide_eq_true_eq] at h
      exact .inl ⟨k1, identB_size h.1, (inR s hs _ (ac s hs (by omega))).1, h.2⟩
    rw [if_neg k1] at h
    by_cases k2 : s.kind = 2
    · exact .inr (.inl ⟨k2, (inR s hs _ (ac s hs (by omega))).1⟩)
    rw [if_neg k2] at h
    by_cases k3 : s.kind = 3
    · rw [if_pos k3] at h
      simp only [Bool.and_eq_true, decide_eq_true_eq] at h
      exact .inr (.inr ⟨k3, h.2⟩)
    · rw [if_neg k3] at h
      cases h
  refine ⟨h1, h2, h3, fun x hx => List.all_eq_true.1 h5 x hx, fun i x hx k hk => ?_, fun s hs => ⟨?_, ?_⟩, stm, fun Es hl hE s hs k hk h0 e he => ?_⟩
  · have hi : i < N.length := (List.getElem?_eq_some_iff.1 hx).1
    obtain ⟨ks, e1, e2⟩ := forest_kids hF i (Nat.zero_le _) hi
    rw [List.getElem?_map, hx] at e1
    have e3 : x.kids = topsI ks := Option.some.inj e1
    rw [e3, topsI] at hk
    obtain ⟨p, hp, rfl⟩ := List.mem_map.1 hk
    have := e2 p hp
    omega
  · by_cases k3 : s.kind = 3
    · rcases stm s hs with h | h | h
      · omega
      · omega
      · exact .inl h.2
    · exact .inr (inR s hs _ (ac s hs k3))
  · by_cases g : s.grant = -1
    · exact .inl g
    · exact .inr (inR s hs _ (ag s hs g))
  · have hk2 : k ∈ askedOf s := by
      rcases hk with rfl | rfl
      · apply ac s hs
        intro k3
        rcases stm s hs with h | h | h <;> omega
      · exact ag s hs (by omega)
    obtain ⟨p, hp, rfl⟩ := asked s hs k hk2
    have hlt : ∀ q ∈ S, q.1 < Es.length := fun q hq => by rw [hl]; exact (hF.lt q hq).2
    have key := forest_cnt hF (S.attach.map (fun q => Es[q.1.1]'(hlt q.1 q.2))) (by simp) (fun j h1 h2 => by
      have := hE (S[j]).1 (hlt _ (List.getElem_mem h1))
      simpa using this)
    rw [Int.toNat_natCast] at he
    have hm : e ∈ S.attach.map (fun q => Es[q.1.1]'(hlt q.1 q.2)) := by
      refine List.mem_map.2 ⟨⟨p, hp⟩, List.mem_attach _ _, ?_⟩
      exact (List.getElem?_eq_some_iff.1 he).2
    have := cnt_le hm
    omega

end Go.Proofs.YtddpcehgopeklaaGreatDoor

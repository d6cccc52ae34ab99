/-
  The walks over l1next, l1sorted; rising lists by their members. Own work.
-/
import Derived.Test.YtnahfogbemfngaaGreatDoorPickP
namespace Go.Proofs.YtnahfogbemfngaaGreatDoor
open Go.RowKit

/-- is it asked for? -/
def okB (first : Bool) (s x : ByteArray) : Bool := first || sl s x

/-- the least one that is asked for, or none -/
structure IsNext (names : List ByteArray) (first : Bool) (s best : ByteArray) (found : Bool) : Prop where
  yes : found = true → best ∈ names ∧ okB first s best = true ∧ ∀ x ∈ names, okB first s x = true → sl x best = false
  no : found = false → ∀ x ∈ names, okB first s x = false

theorem IsNext.start (first : Bool) (s best : ByteArray) : IsNext [] first s best false := ⟨(fun h => by cases h), (fun _ x hx => by cases hx)⟩

theorem IsNext.skip {names : List ByteArray} {first : Bool} {s best x : ByteArray} {found : Bool} (h : IsNext names first s best found) (hx : okB first s x = false) : IsNext (names ++ [x]) first s best found := by
  refine ⟨fun hf => ?_, fun hf y hy => ?_⟩
  · obtain ⟨h1, h2, h3⟩ := h.yes hf
    refine ⟨List.mem_append_left _ h1, h2, fun y hy hyo => ?_⟩
    rcases List.mem_append.1 hy with hy | hy
    · exact h3 y hy hyo
    · simp only [List.mem_singleton] at hy; subst hy; rw [hx] at hyo; cases hyo
  · rcases List.mem_append.1 hy with hy | hy
    · exact h.no hf y hy
    · simp only [List.mem_singleton] at hy; subst hy; exact hx

theorem IsNext.keep {names : List ByteArray} {first : Bool} {s best x : ByteArray} (h : IsNext names first s best true) (hx : sl x best = false) : IsNext (names ++ [x]) first s best true := by
  obtain ⟨h1, h2, h3⟩ := h.yes rfl
  refine ⟨fun _ => ⟨List.mem_append_left _ h1, h2, fun y hy hyo => ?_⟩, fun hf => by cases hf⟩
  rcases List.mem_append.1 hy with hy | hy
  · exact h3 y hy hyo
  · simp only [List.mem_singleton] at hy; subst hy; exact hx

theorem IsNext.take {names : List ByteArray} {first : Bool} {s best x : ByteArray} {found : Bool} (h : IsNext names first s best found) (hx : okB first s x = true) (hl : found = true → sl x best = true) : IsNext (names ++ [x]) first s x true := by
  refine ⟨fun _ => ⟨by simp, hx, fun y hy hyo => ?_⟩, fun hf => by cases hf⟩
  rcases List.mem_append.1 hy with hy | hy
  · cases found with
    | false => rw [h.no rfl y hy] at hyo; cases hyo
    | true =>
      have h3 := (h.yes rfl).2.2 y hy hyo
      rw [Bool.eq_false_iff] at h3 ⊢
      intro hk
      exact h3 (sl_trans hk (hl rfl))
  · simp only [List.mem_singleton] at hy; subst hy; exact sl_irrefl _

/-- what the walk's test on order says -/
theorem leq_not (first : Bool) (s x : ByteArray) (hf : first = false) (h : (Op.bytesLess x.toList s.toList || x.toList == s.toList) = true) : okB first s x = false := by
  subst hf
  simp only [okB, Bool.false_or]
  rw [Bool.or_eq_true] at h
  rcases h with h | h
  · exact sl_asymm h
  · have : x = s := (eqS_iff x s).1 h
    subst this; exact sl_irrefl _

theorem leq_ok (first : Bool) (s x : ByteArray) (h : (Op.bytesLess x.toList s.toList || x.toList == s.toList) = false) : okB first s x = true := by
  rw [Bool.or_eq_false_iff] at h
  have h1 : sl x s = false := h.1
  have h2 : eqS x s = false := h.2
  have : sl s x = true := by
    cases hk : sl s x with
    | true => rfl
    | false =>
      have := sl_tri _ _ h1 hk
      rw [(eqS_iff _ _).2 this] at h2; cases h2
  simp [okB, this]

/-- what l1next answers -/
def NextAns (ss : List ByteArray) (first : Bool) (s : ByteArray) (e : Ending) : Prop := ∃ best found, e = .returned (.tuple #[.string best, .bool found]) ∧ IsNext ss first s best found

set_option maxHeartbeats 1600000 in
theorem l1next_any (a : Option Addr) (n c : Nat) (ss : List ByteArray) (s : ByteArray) (first : Bool) (w : World) (h : Strs w a n c ss) :
    Calls Tryz.prog 64 #[.slice a n c, .string s, .bool first] w fun e w' => NextAns ss first s e ∧ w' = w := by
  have hn : n ≤ 9223372036854775807 := by have := h.cap; have := h.small; unfold maxLen at this; omega
  have Hl := hide h.len
  go_enter Tryz.func64, Tryz.ntmps64
  go_wp2
  go_loop [8, 9, 11, 14] (fun b f _ i => ∃ (k : Nat) (best : ByteArray) (found : Bool), k ≤ n ∧ i = .int .i64 k ∧ b = .string best ∧ f = .bool found ∧ IsNext (ss.take k) first s best found) (fun _ _ _ i => n - (intOf i).toNat)
  case atStart => exact ⟨0, _, false, Nat.zero_le _, rfl, rfl, rfl, IsNext.start _ _ _⟩
  case round =>
    obtain ⟨k, best, found, hk, rfl, rfl, rfl, hi⟩ := hrel
    by_cases hlt : k < n
    · obtain ⟨b, off, ha', _, hc⟩ := h.cells k hlt
      subst ha'
      have Ht := hide (take_succ_nth ss k (by have := unhide Hl; omega))
      cases hlq : (Op.bytesLess (nth ss k).toList s.toList || (nth ss k).toList == s.toList)
      · have ho := leq_ok first s (nth ss k) hlq
        have Ho := hide ho
        clear ho
        cases found
        · cases first
          all_goals
            go_wp2
            go_round
            case rel => exact ⟨k + 1, _, true, by omega, by go_num, rfl, rfl, by rw [unhide Ht]; exact hi.take (unhide Ho) (fun h => by cases h)⟩
            case measure => simp [intOf]; omega
        · cases hb : Op.bytesLess (nth ss k).toList best.toList
          · cases first
            all_goals
              go_wp2
              go_round
              case rel => exact ⟨k + 1, _, true, by omega, by go_num, rfl, rfl, by rw [unhide Ht]; exact hi.keep hb⟩
              case measure => simp [intOf]; omega
          · cases first
            all_goals
              go_wp2
              go_round
              case rel => exact ⟨k + 1, _, true, by omega, by go_num, rfl, rfl, by rw [unhide Ht]; exact hi.take (unhide Ho) (fun _ => hb)⟩
              case measure => simp [intOf]; omega
      · cases first
        · have Ho := hide (leq_not false s (nth ss k) rfl hlq)
          go_wp2
          go_round
          case rel => exact ⟨k + 1, _, found, by omega, by go_num, rfl, rfl, by rw [unhide Ht]; exact hi.skip (unhide Ho)⟩
          case measure => simp [intOf]; omega
        · have ho : okB true s (nth ss k) = true := rfl
          have Ho := hide ho
          clear ho
          cases found
          · go_wp2
            go_round
            case rel => exact ⟨k + 1, _, true, by omega, by go_num, rfl, rfl, by rw [unhide Ht]; exact hi.take (unhide Ho) (fun h => by cases h)⟩
            case measure => simp [intOf]; omega
          · cases hb : Op.bytesLess (nth ss k).toList best.toList
            · go_wp2
              go_round
              case rel => exact ⟨k + 1, _, true, by omega, by go_num, rfl, rfl, by rw [unhide Ht]; exact hi.keep hb⟩
              case measure => simp [intOf]; omega
            · go_wp2
              go_round
              case rel => exact ⟨k + 1, _, true, by omega, by go_num, rfl, rfl, by rw [unhide Ht]; exact hi.take (unhide Ho) (fun _ => hb)⟩
              case measure => simp [intOf]; omega
    · have e1 : ss.take k = ss := List.take_of_length_le (by have := unhide Hl; omega)
      rw [e1] at hi
      go_wp2
      go_ret2
      exact ⟨⟨best, found, rfl, hi⟩, rfl⟩

theorem rise_nodup {K : List ByteArray} (h : risB K = true) : K.Nodup := by
  rw [risB, decide_eq_true_eq] at h
  exact h.imp (fun {a b} hab e => by subst e; rw [sl_irrefl] at hab; cases hab)

theorem nodup_le : ∀ (K l : List ByteArray), K.Nodup → (∀ x ∈ K, x ∈ l) → K.length ≤ l.length
  | [], _, _, _ => Nat.zero_le _
  | x :: K, l, hn, hs => by
    obtain ⟨l1, l2, rfl⟩ := List.append_of_mem (hs x (by simp))
    rw [List.nodup_cons] at hn
    have := nodup_le K (l1 ++ l2) hn.2 (fun y hy => by
      have hne : y ≠ x := fun e => hn.1 (by rw [← e]; exact hy)
      have hm := hs y (by simp [hy])
      simp only [List.mem_append, List.mem_cons] at hm ⊢
      rcases hm with h | h | h
      · exact .inl h
      · exact absurd h hne
      · exact .inr h)
    simp only [List.length_append, List.length_cons] at this ⊢
    omega

/-- two rising lists with the same members are one -/
theorem rise_unique : ∀ (K M : List ByteArray), risB K = true → risB M = true → (∀ x, x ∈ K ↔ x ∈ M) → K = M
  | [], [], _, _, _ => rfl
  | [], y :: M, _, _, h => by have := (h y).2 (by simp); cases this
  | x :: K, [], _, _, h => by have := (h x).1 (by simp); cases this
  | x :: K, y :: M, hK, hM, h => by
    rw [risB, decide_eq_true_eq, List.pairwise_cons] at hK hM
    have exy : x = y := by
      rcases List.mem_cons.1 ((h x).1 (by simp)) with e | hx
      · exact e
      · rcases List.mem_cons.1 ((h y).2 (by simp)) with e | hy
        · exact e.symm
        · have h1 := hM.1 x hx
          have h2 := hK.1 y hy
          rw [sl_asymm h1] at h2; cases h2
    subst exy
    congr 1
    refine rise_unique K M (by rw [risB, decide_eq_true_eq]; exact hK.2) (by rw [risB, decide_eq_true_eq]; exact hM.2) fun z => ?_
    constructor
    · intro hz
      rcases List.mem_cons.1 ((h z).1 (by simp [hz])) with e | hz'
      · subst e; have := hK.1 z hz; rw [sl_irrefl] at this; cases this
      · exact hz'
    · intro hz
      rcases List.mem_cons.1 ((h z).2 (by simp [hz])) with e | hz'
      · subst e; have := hM.1 z hz; rw [sl_irrefl] at this; cases this
      · exact hz'

/-- the names of a list, rising -/
structure IsSorted (l K : List ByteArray) : Prop where
  rise : risB K = true
  mem : ∀ x, x ∈ K ↔ x ∈ l

theorem IsSorted.unique {l K M : List ByteArray} (h : IsSorted l K) (k : IsSorted l M) : K = M := rise_unique K M h.rise k.rise fun x => (h.mem x).trans (k.mem x).symm

theorem IsSorted.len {l K : List ByteArray} (h : IsSorted l K) : K.length ≤ l.length := nodup_le K l (rise_nodup h.rise) fun x hx => (h.mem x).1 hx

/-- how far l1sorted is: all that is less than s has been taken -/
structure Upto (l K : List ByteArray) (s : ByteArray) (ok : Bool) : Prop where
  rise : risB K = true
  yes : ok = true → s ∈ l ∧ ∀ x, x ∈ K ↔ x ∈ l ∧ sl x s = true
  no : ok = false → ∀ x, x ∈ K ↔ x ∈ l

theorem Upto.start {l : List ByteArray} {t s : ByteArray} {ok : Bool} (h : IsNext l true t s ok) : Upto l [] s ok := by
  refine ⟨rfl, fun hk => ⟨(h.yes hk).1, fun x => ⟨(fun hx => by cases hx), fun ⟨hx, hl⟩ => ?_⟩⟩, fun hk x => ⟨(fun hx => by cases hx), fun hx => ?_⟩⟩
  · have := (h.yes hk).2.2 x hx rfl
    rw [this] at hl; cases hl
  · have := h.no hk x hx
    cases this

theorem sl_cases (x s : ByteArray) : sl x s = true ∨ x = s ∨ sl s x = true := by
  cases h1 : sl x s with
  | true => exact .inl rfl
  | false => cases h2 : sl s x with
    | true => exact .inr (.inr rfl)
    | false => exact .inr (.inl (sl_tri _ _ h1 h2))

theorem Upto.step {l K : List ByteArray} {s s' : ByteArray} {ok : Bool} (h : Upto l K s true) (k : IsNext l false s s' ok) : Upto l (K ++ [s]) s' ok := by
  obtain ⟨hs, hm⟩ := h.yes rfl
  have rise : risB (K ++ [s]) = true := by
    rw [risB, decide_eq_true_eq, List.pairwise_append]
    refine ⟨by have := h.rise; rwa [risB, decide_eq_true_eq] at this, by simp, fun x hx y hy => ?_⟩
    simp only [List.mem_singleton] at hy; subst hy
    exact ((hm x).1 hx).2
  refine ⟨rise, fun hk => ?_, fun hk => ?_⟩
  · obtain ⟨h1, h2, h3⟩ := k.yes hk
    have hss : sl s s' = true := by simpa [okB] using h2
    refine ⟨h1, fun x => ⟨fun hx => ?_, fun ⟨hx, hl⟩ => ?_⟩⟩
    · rcases List.mem_append.1 hx with hx | hx
      · exact ⟨((hm x).1 hx).1, sl_trans ((hm x).1 hx).2 hss⟩
      · simp only [List.mem_singleton] at hx; subst hx; exact ⟨hs, hss⟩
    · rcases sl_cases x s with hc | hc | hc
      · exact List.mem_append_left _ ((hm x).2 ⟨hx, hc⟩)
      · subst hc; simp
      · have := h3 x hx (by simpa [okB] using hc)
        rw [this] at hl; cases hl
  · intro x
    constructor
    · intro hx
      rcases List.mem_append.1 hx with hx | hx
      · exact ((hm x).1 hx).1
      · simp only [List.mem_singleton] at hx; subst hx; exact hs
    · intro hx
      rcases sl_cases x s with hc | hc | hc
      · exact List.mem_append_left _ ((hm x).2 ⟨hx, hc⟩)
      · subst hc; simp
      · have := k.no hk x hx
        simp [okB, hc] at this

theorem Upto.lt {l K : List ByteArray} {s : ByteArray} (h : Upto l K s true) : K.length < l.length := by
  obtain ⟨hs, hm⟩ := h.yes rfl
  have hn : s ∉ K := fun hk => by have := ((hm s).1 hk).2; rw [sl_irrefl] at this; cases this
  have := nodup_le (s :: K) l (List.nodup_cons.2 ⟨hn, rise_nodup h.rise⟩) (fun x hx => by
    rcases List.mem_cons.1 hx with e | hx
    · subst e; exact hs
    · exact ((hm x).1 hx).1)
  simp only [List.length_cons] at this
  omega

def lenOf : Value → Nat | .slice _ n _ => n | _ => 0

theorem sizes_sorted {l K : List ByteArray} (h : IsSorted l K) (hs : ∀ j, j < l.length → (nth l j).size ≤ maxLen) : ∀ j, j < K.length → (nth K j).size ≤ maxLen := by
  intro j hj
  have hm : nth K j ∈ l := by
    rw [nth_eq _ j hj]
    exact (h.mem _).1 (List.getElem_mem hj)
  obtain ⟨i, hi, e⟩ := (mem_nth _ _).1 hm
  rw [← e]; exact hs i hi

/-- what l1sorted answers -/
def SortAns (w : World) (ss : List ByteArray) (e : Ending) (w' : World) : Prop :=
  ∃ x cx K, e = .returned (.slice x K.length cx) ∧ w'.ownsRow w.heap.size 9 1 (.slice x K.length cx) K.length (K.map Value.string) ∧ Below w.heap.size w w' ∧ IsSorted ss K

set_option maxHeartbeats 1600000 in
theorem l1sorted_any (a : Option Addr) (n c : Nat) (ss : List ByteArray) (w : World) (h : Strs w a n c ss) (hsm : n ≤ 1048576) :
    Calls Tryz.prog 47 #[.slice a n c] w fun e w' => SortAns w ss e w' := by
  obtain ⟨i, hi, hz0, hz1, hz2⟩ := info_parts infoS
  have Hl := hide h.len
  go_enter Tryz.func47, Tryz.ntmps47
  go_wp2_with fail
  refine (l1next_any _ _ _ _ _ _ _ h).mono ?_
  rintro e w1 ⟨⟨best, found, rfl, hnx⟩, hw1⟩
  rw [hw1]
  clear hw1
  have hst := Upto.start hnx
  clear hnx
  go_wp2_with fail
  go_loopw [3, 4, 5] (fun v s ok wr => ∃ (K : List ByteArray) (t : ByteArray) (q : Bool) (x : Option Addr) (cx : Nat), s = .string t ∧ ok = .bool q ∧ v = .slice x K.length cx ∧ wr.ownsRow w.heap.size 9 1 (.slice x K.length cx) K.length (K.map Value.string) ∧ Upto ss K t q ∧ Below w.heap.size w wr) (fun v _ _ _ => n - lenOf v)
  case atStart => exact ⟨[], best, found, none, 0, rfl, rfl, rfl, World.ownsRow_nil _ _ _ _, hst, Below.refl _ _⟩
  case round =>
    obtain ⟨K, t, q, x, cx, rfl, rfl, rfl, hown, hu, hb⟩ := hrel
    cases q
    · go_wp2
      go_ret
      exact ⟨x, cx, K, rfl, hown, hb, ⟨hu.rise, hu.no rfl⟩⟩
    · have hlt : K.length < n := by have := hu.lt; have := unhide Hl; omega
      have hbs := hb.size
      go_wp2_with (at_builtin; refine wpList_append_own _ rfl _ _ 23 rfl w.heap.size 9 i (.string ByteArray.empty) 1 16 Tryz.underlying23 hi hz0 hz1 hz2 rfl (by decide) _ _ _ rfl (hown.alloc _) ⟨wr.heap.size, 0, none⟩ 1 1 [.string t] rfl rfl ?c1 ?c2 ?c3 ?c4 ?c5 ?_)
      case c1 => exact cell_one_new _ _ _
      case c2 => intro u hu; simp at hu; subst hu; rfl
      case c3 => unfold maxLen; omega
      case c4 => omega
      case c5 => simp; omega
      intro v' w1 hown' hgrow _
      have hb1 : Below w.heap.size w w1 := (hb.alloc hbs _).grown hgrow (by simp; omega) (fun k hk => (hown.lt k hk).1)
      obtain ⟨x', cx', hf⟩ := owns_form hown'
      rw [hf] at hown' ⊢
      clear hgrow hown hf
      go_wp2_with fail
      refine (l1next_any _ _ _ _ _ _ _ (h.below hb1 (Nat.le_refl _))).mono ?_
      rintro e w2 ⟨⟨best', found', rfl, hnx⟩, hw2⟩
      rw [hw2]
      clear hw2
      have hu' := hu.step hnx
      clear hnx hu
      go_wp2
      go_roundw
      case rel => exact ⟨K ++ [t], best', found', x', cx', rfl, rfl, by rw [List.length_append]; rfl, by rw [List.map_append, List.length_append]; exact hown', hu', hb1⟩
      case measure => simp [lenOf]; omega

end Go.Proofs.YtnahfogbemfngaaGreatDoor

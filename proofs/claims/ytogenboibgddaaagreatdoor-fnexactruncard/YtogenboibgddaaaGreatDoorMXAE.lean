/-
  Sorted, UN0, ME0, MI0, WI0, DVA0, DVC. Own work.
-/
import Derived.Test.YtogenboibgddaaaGreatDoorMXAC
import Derived.Test.YtogenboibgddaaaGreatDoorMXAD
import Derived.Test.YtogenboibgddaaaGreatDoorMXAB
import Derived.Test.YtogenboibgddaaaGreatDoorMA
import Derived.Test.YtogenboibgddaaaGreatDoorMB
import Derived.Test.YtogenboibgddaaaGreatDoorML
import Derived.WalkKit
import Derived.Below
namespace Go.Proofs.YtogenboibgddaaaGreatDoor
open Go.RowKit

/-- is it asked for? -/
def okB (first : Bool) (s x : ByteArray) : Bool := first || sl s x

/-- the least one that is asked for, or none -/
structure IsNext (names : List ByteArray) (first : Bool) (s best : ByteArray) (found : Bool) : Prop where
  yes : found = true → best ∈ names ∧ okB first s best = true ∧ ∀ x ∈ names, okB first s x = true → sl x best = false
  no : found = false → ∀ x ∈ names, okB first s x = false

theorem IsNext.start (first : Bool) (s best : ByteArray) : IsNext [] first s best false := ⟨(fun h => by cases h), (fun _ x hx => by cases hx)⟩

theorem IsNext.skip {names : List ByteArray} {first : Bool} {s best x : ByteArray} {found : Bool} (h : IsNext names first s best found) (hx : okB first s x = false) : IsNext (names ++ [x]) first s best found := by
  refine ⟨fun hf => ?_, fun hf y hy => ?_⟩
  · obtain ⟨h1, h2, h3⟩ := h.yes hf
    refine ⟨List.mem_append_left _ h1, h2, fun y hy hyo => ?_⟩
    rcases List.mem_append.1 hy with hy | hy
    · exact h3 y hy hyo
    · simp only [List.mem_singleton] at hy; subst hy; rw [hx] at hyo; cases hyo
  · rcases List.mem_append.1 hy with hy | hy
    · exact h.no hf y hy
    · simp only [List.mem_singleton] at hy; subst hy; exact hx

theorem IsNext.keep {names : List ByteArray} {first : Bool} {s best x : ByteArray} (h : IsNext names first s best true) (hx : sl x best = false) : IsNext (names ++ [x]) first s best true := by
  obtain ⟨h1, h2, h3⟩ := h.yes rfl
  refine ⟨fun _ => ⟨List.mem_append_left _ h1, h2, fun y hy hyo => ?_⟩, fun hf => by cases hf⟩
  rcases List.mem_append.1 hy with hy | hy
  · exact h3 y hy hyo
  · simp only [List.mem_singleton] at hy; subst hy; exact hx

theorem IsNext.take {names : List ByteArray} {first : Bool} {s best x : ByteArray} {found : Bool} (h : IsNext names first s best found) (hx : okB first s x = true) (hl : found = true → sl x best = true) : IsNext (names ++ [x]) first s x true := by
  refine ⟨fun _ => ⟨by simp, hx, fun y hy hyo => ?_⟩, fun hf => by cases hf⟩
  rcases List.mem_append.1 hy with hy | hy
  · cases found with
    | false => rw [h.no rfl y hy] at hyo; cases hyo
    | true =>
      have h3 := (h.yes rfl).2.2 y hy hyo
      rw [Bool.eq_false_iff] at h3 ⊢
      intro hk
      exact h3 (sl_trans hk (hl rfl))
  · simp only [List.mem_singleton] at hy; subst hy; exact sl_irrefl _

/-- what the walk's test on order says -/
theorem leq_not (first : Bool) (s x : ByteArray) (hf : first = false) (h : (Op.bytesLess x.toList s.toList || x.toList == s.toList) = true) : okB first s x = false := by
  subst hf
  simp only [okB, Bool.false_or]
  rw [Bool.or_eq_true] at h
  rcases h with h | h
  · exact sl_asymm h
  · have : x = s := (eqS_iff x s).1 h
    subst this; exact sl_irrefl _

theorem leq_ok (first : Bool) (s x : ByteArray) (h : (Op.bytesLess x.toList s.toList || x.toList == s.toList) = false) : okB first s x = true := by
  rw [Bool.or_eq_false_iff] at h
  have h1 : sl x s = false := h.1
  have h2 : eqS x s = false := h.2
  have : sl s x = true := by
    cases hk : sl s x with
    | true => rfl
    | false =>
      have := sl_tri _ _ h1 hk
      rw [(eqS_iff _ _).2 this] at h2; cases h2
  simp [okB, this]

/-- what l1next answers -/
def NextAns (ss : List ByteArray) (first : Bool) (s : ByteArray) (e : Ending) : Prop := ∃ best found, e = .returned (.tuple #[.string best, .bool found]) ∧ IsNext ss first s best found

set_option maxHeartbeats 1600000 in
theorem l1next_any (a : Option Addr) (n c : Nat) (ss : List ByteArray) (s : ByteArray) (first : Bool) (w : World) (h : Strs w a n c ss) :
    Calls Tryz.prog 115 #[.slice a n c, .string s, .bool first] w fun e w' => NextAns ss first s e ∧ w' = w := by
  have hn : n ≤ 9223372036854775807 := by have := h.cap; have := h.small; unfold maxLen at this; omega
  have Hl := hide h.len
  go_enter Tryz.func115, Tryz.ntmps115
  go_wp2
  go_loop [8, 9, 11, 14] (fun b f _ i => ∃ (k : Nat) (best : ByteArray) (found : Bool), k ≤ n ∧ i = .int .i64 k ∧ b = .string best ∧ f = .bool found ∧ IsNext (ss.take k) first s best found) (fun _ _ _ i => n - (intOf i).toNat)
  case atStart => exact ⟨0, _, false, Nat.zero_le _, rfl, rfl, rfl, IsNext.start _ _ _⟩
  case round =>
    obtain ⟨k, best, found, hk, rfl, rfl, rfl, hi⟩ := hrel
    by_cases hlt : k < n
    · obtain ⟨b, off, ha', _, hc⟩ := h.cells k hlt
      subst ha'
      have Ht := hide (take_succ_nth ss k (by have := unhide Hl; omega))
      cases hlq : (Op.bytesLess (nth ss k).toList s.toList || (nth ss k).toList == s.toList)
      · have ho := leq_ok first s (nth ss k) hlq
        have Ho := hide ho
        clear ho
        cases found
        · cases first
          all_goals
            go_wp2
            go_round
            case rel => exact ⟨k + 1, _, true, by omega, by go_num, rfl, rfl, by rw [unhide Ht]; exact hi.take (unhide Ho) (fun h => by cases h)⟩
            case measure => simp [intOf]; omega
        · cases hb : Op.bytesLess (nth ss k).toList best.toList
          · cases first
            all_goals
              go_wp2
              go_round
              case rel => exact ⟨k + 1, _, true, by omega, by go_num, rfl, rfl, by rw [unhide Ht]; exact hi.keep hb⟩
              case measure => simp [intOf]; omega
          · cases first
            all_goals
              go_wp2
              go_round
              case rel => exact ⟨k + 1, _, true, by omega, by go_num, rfl, rfl, by rw [unhide Ht]; exact hi.take (unhide Ho) (fun _ => hb)⟩
              case measure => simp [intOf]; omega
      · cases first
        · have Ho := hide (leq_not false s (nth ss k) rfl hlq)
          go_wp2
          go_round
          case rel => exact ⟨k + 1, _, found, by omega, by go_num, rfl, rfl, by rw [unhide Ht]; exact hi.skip (unhide Ho)⟩
          case measure => simp [intOf]; omega
        · have ho : okB true s (nth ss k) = true := rfl
          have Ho := hide ho
          clear ho
          cases found
          · go_wp2
            go_round
            case rel => exact ⟨k + 1, _, true, by omega, by go_num, rfl, rfl, by rw [unhide Ht]; exact hi.take (unhide Ho) (fun h => by cases h)⟩
            case measure => simp [intOf]; omega
          · cases hb : Op.bytesLess (nth ss k).toList best.toList
            · go_wp2
              go_round
              case rel => exact ⟨k + 1, _, true, by omega, by go_num, rfl, rfl, by rw [unhide Ht]; exact hi.keep hb⟩
              case measure => simp [intOf]; omega
            · go_wp2
              go_round
              case rel => exact ⟨k + 1, _, true, by omega, by go_num, rfl, rfl, by rw [unhide Ht]; exact hi.take (unhide Ho) (fun _ => hb)⟩
              case measure => simp [intOf]; omega
    · have e1 : ss.take k = ss := List.take_of_length_le (by have := unhide Hl; omega)
      rw [e1] at hi
      go_wp2
      go_ret2
      exact ⟨⟨best, found, rfl, hi⟩, rfl⟩

theorem rise_nodup {K : List ByteArray} (h : risB K = true) : K.Nodup := by
  rw [risB, decide_eq_true_eq] at h
  exact h.imp (fun {a b} hab e => by subst e; rw [sl_irrefl] at hab; cases hab)

theorem nodup_le : ∀ (K l : List ByteArray), K.Nodup → (∀ x ∈ K, x ∈ l) → K.length ≤ l.length
  | [], _, _, _ => Nat.zero_le _
  | x :: K, l, hn, hs => by
    obtain ⟨l1, l2, rfl⟩ := List.append_of_mem (hs x (by simp))
    rw [List.nodup_cons] at hn
    have := nodup_le K (l1 ++ l2) hn.2 (fun y hy => by
      have hne : y ≠ x := fun e => hn.1 (by rw [← e]; exact hy)
      have hm := hs y (by simp [hy])
      simp only [List.mem_append, List.mem_cons] at hm ⊢
      rcases hm with h | h | h
      · exact .inl h
      · exact absurd h hne
      · exact .inr h)
    simp only [List.length_append, List.length_cons] at this ⊢
    omega

/-- two rising lists with the same members are one -/
theorem rise_unique : ∀ (K M : List ByteArray), risB K = true → risB M = true → (∀ x, x ∈ K ↔ x ∈ M) → K = M
  | [], [], _, _, _ => rfl
  | [], y :: M, _, _, h => by have := (h y).2 (by simp); cases this
  | x :: K, [], _, _, h => by have := (h x).1 (by simp); cases this
  | x :: K, y :: M, hK, hM, h => by
    rw [risB, decide_eq_true_eq, List.pairwise_cons] at hK hM
    have exy : x = y := by
      rcases List.mem_cons.1 ((h x).1 (by simp)) with e | hx
      · exact e
      · rcases List.mem_cons.1 ((h y).2 (by simp)) with e | hy
        · exact e.symm
        · have h1 := hM.1 x hx
          have h2 := hK.1 y hy
          rw [sl_asymm h1] at h2; cases h2
    subst exy
    congr 1
    refine rise_unique K M (by rw [risB, decide_eq_true_eq]; exact hK.2) (by rw [risB, decide_eq_true_eq]; exact hM.2) fun z => ?_
    constructor
    · intro hz
      rcases List.mem_cons.1 ((h z).1 (by simp [hz])) with e | hz'
      · subst e; have := hK.1 z hz; rw [sl_irrefl] at this; cases this
      · exact hz'
    · intro hz
      rcases List.mem_cons.1 ((h z).2 (by simp [hz])) with e | hz'
      · subst e; have := hM.1 z hz; rw [sl_irrefl] at this; cases this
      · exact hz'

/-- the names of a list, rising -/
structure IsSorted (l K : List ByteArray) : Prop where
  rise : risB K = true
  mem : ∀ x, x ∈ K ↔ x ∈ l

theorem IsSorted.unique {l K M : List ByteArray} (h : IsSorted l K) (k : IsSorted l M) : K = M := rise_unique K M h.rise k.rise fun x => (h.mem x).trans (k.mem x).symm

theorem IsSorted.len {l K : List ByteArray} (h : IsSorted l K) : K.length ≤ l.length := nodup_le K l (rise_nodup h.rise) fun x hx => (h.mem x).1 hx

/-- how far l1sorted is: all that is less than s has been taken -/
structure Upto (l K : List ByteArray) (s : ByteArray) (ok : Bool) : Prop where
  rise : risB K = true
  yes : ok = true → s ∈ l ∧ ∀ x, x ∈ K ↔ x ∈ l ∧ sl x s = true
  no : ok = false → ∀ x, x ∈ K ↔ x ∈ l

theorem Upto.start {l : List ByteArray} {t s : ByteArray} {ok : Bool} (h : IsNext l true t s ok) : Upto l [] s ok := by
  refine ⟨rfl, fun hk => ⟨(h.yes hk).1, fun x => ⟨(fun hx => by cases hx), fun ⟨hx, hl⟩ => ?_⟩⟩, fun hk x => ⟨(fun hx => by cases hx), fun hx => ?_⟩⟩
  · have := (h.yes hk).2.2 x hx rfl
    rw [this] at hl; cases hl
  · have := h.no hk x hx
    cases this

theorem sl_cases (x s : ByteArray) : sl x s = true ∨ x = s ∨ sl s x = true := by
  cases h1 : sl x s with
  | true => exact .inl rfl
  | false => cases h2 : sl s x with
    | true => exact .inr (.inr rfl)
    | false => exact .inr (.inl (sl_tri _ _ h1 h2))

theorem Upto.step {l K : List ByteArray} {s s' : ByteArray} {ok : Bool} (h : Upto l K s true) (k : IsNext l false s s' ok) : Upto l (K ++ [s]) s' ok := by
  obtain ⟨hs, hm⟩ := h.yes rfl
  have rise : risB (K ++ [s]) = true := by
    rw [risB, decide_eq_true_eq, List.pairwise_append]
    refine ⟨by have := h.rise; rwa [risB, decide_eq_true_eq] at this, by simp, fun x hx y hy => ?_⟩
    simp only [List.mem_singleton] at hy; subst hy
    exact ((hm x).1 hx).2
  refine ⟨rise, fun hk => ?_, fun hk => ?_⟩
  · obtain ⟨h1, h2, h3⟩ := k.yes hk
    have hss : sl s s' = true := by simpa [okB] using h2
    refine ⟨h1, fun x => ⟨fun hx => ?_, fun ⟨hx, hl⟩ => ?_⟩⟩
    · rcases List.mem_append.1 hx with hx | hx
      · exact ⟨((hm x).1 hx).1, sl_trans ((hm x).1 hx).2 hss⟩
      · simp only [List.mem_singleton] at hx; subst hx; exact ⟨hs, hss⟩
    · rcases sl_cases x s with hc | hc | hc
      · exact List.mem_append_left _ ((hm x).2 ⟨hx, hc⟩)
      · subst hc; simp
      · have := h3 x hx (by simpa [okB] using hc)
        rw [this] at hl; cases hl
  · intro x
    constructor
    · intro hx
      rcases List.mem_append.1 hx with hx | hx
      · exact ((hm x).1 hx).1
      · simp only [List.mem_singleton] at hx; subst hx; exact hs
    · intro hx
      rcases sl_cases x s with hc | hc | hc
      · exact List.mem_append_left _ ((hm x).2 ⟨hx, hc⟩)
      · subst hc; simp
      · have := k.no hk x hx
        simp [okB, hc] at this

theorem Upto.lt {l K : List ByteArray} {s : ByteArray} (h : Upto l K s true) : K.length < l.length := by
  obtain ⟨hs, hm⟩ := h.yes rfl
  have hn : s ∉ K := fun hk => by have := ((hm s).1 hk).2; rw [sl_irrefl] at this; cases this
  have := nodup_le (s :: K) l (List.nodup_cons.2 ⟨hn, rise_nodup h.rise⟩) (fun x hx => by
    rcases List.mem_cons.1 hx with e | hx
    · subst e; exact hs
    · exact ((hm x).1 hx).1)
  simp only [List.length_cons] at this
  omega

def lenOf : Value → Nat | .slice _ n _ => n | _ => 0

theorem sizes_sorted {l K : List ByteArray} (h : IsSorted l K) (hs : ∀ j, j < l.length → (nth l j).size ≤ maxLen) : ∀ j, j < K.length → (nth K j).size ≤ maxLen := by
  intro j hj
  have hm : nth K j ∈ l := by
    rw [nth_eq _ j hj]
    exact (h.mem _).1 (List.getElem_mem hj)
  obtain ⟨i, hi, e⟩ := (mem_nth _ _).1 hm
  rw [← e]; exact hs i hi

/-- what l1sorted answers -/
def SortAns (w : World) (ss : List ByteArray) (e : Ending) (w' : World) : Prop :=
  ∃ x cx K, e = .returned (.slice x K.length cx) ∧ w'.ownsRow w.heap.size 9 1 (.slice x K.length cx) K.length (K.map Value.string) ∧ Below w.heap.size w w' ∧ IsSorted ss K

set_option maxHeartbeats 1600000 in
theorem l1sorted_any (a : Option Addr) (n c : Nat) (ss : List ByteArray) (w : World) (h : Strs w a n c ss) (hsm : n ≤ 1048576) :
    Calls Tryz.prog 101 #[.slice a n c] w fun e w' => SortAns w ss e w' := by
  obtain ⟨i, hi, hz0, hz1, hz2⟩ := info_parts infoS
  have Hl := hide h.len
  go_enter Tryz.func101, Tryz.ntmps101
  go_wp2_with fail
  refine (l1next_any _ _ _ _ _ _ _ h).mono ?_
  rintro e w1 ⟨⟨best, found, rfl, hnx⟩, hw1⟩
  rw [hw1]
  clear hw1
  have hst := Upto.start hnx
  clear hnx
  go_wp2_with fail
  go_loopw [3, 4, 5] (fun v s ok wr => ∃ (K : List ByteArray) (t : ByteArray) (q : Bool) (x : Option Addr) (cx : Nat), s = .string t ∧ ok = .bool q ∧ v = .slice x K.length cx ∧ wr.ownsRow w.heap.size 9 1 (.slice x K.length cx) K.length (K.map Value.string) ∧ Upto ss K t q ∧ Below w.heap.size w wr) (fun v _ _ _ => n - lenOf v)
  case atStart => exact ⟨[], best, found, none, 0, rfl, rfl, rfl, World.ownsRow_nil _ _ _ _, hst, Below.refl _ _⟩
  case round =>
    obtain ⟨K, t, q, x, cx, rfl, rfl, rfl, hown, hu, hb⟩ := hrel
    cases q
    · go_wp2
      go_ret
      exact ⟨x, cx, K, rfl, hown, hb, ⟨hu.rise, hu.no rfl⟩⟩
    · have hlt : K.length < n := by have := hu.lt; have := unhide Hl; omega
      have hbs := hb.size
      go_wp2_with (at_builtin; refine wpList_append_own _ rfl _ _ 26 rfl w.heap.size 9 i (.string ByteArray.empty) 1 16 Tryz.underlying26 hi hz0 hz1 hz2 rfl (by decide) _ _ _ rfl (hown.alloc _) ⟨wr.heap.size, 0, none⟩ 1 1 [.string t] rfl rfl ?c1 ?c2 ?c3 ?c4 ?c5 ?_)
      case c1 => exact cell_one_new _ _ _
      case c2 => intro u hu; simp at hu; subst hu; rfl
      case c3 => unfold maxLen; omega
      case c4 => omega
      case c5 => simp; omega
      intro v' w1 hown' hgrow _
      have hb1 : Below w.heap.size w w1 := (hb.alloc hbs _).grown hgrow (by simp; omega) (fun k hk => (hown.lt k hk).1)
      obtain ⟨x', cx', hf⟩ := owns_form hown'
      rw [hf] at hown' ⊢
      clear hgrow hown hf
      go_wp2_with fail
      refine (l1next_any _ _ _ _ _ _ _ (h.below hb1 (Nat.le_refl _))).mono ?_
      rintro e w2 ⟨⟨best', found', rfl, hnx⟩, hw2⟩
      rw [hw2]
      clear hw2
      have hu' := hu.step hnx
      clear hnx hu
      go_wp2
      go_roundw
      case rel => exact ⟨K ++ [t], best', found', x', cx', rfl, rfl, by rw [List.length_append]; rfl, by rw [List.map_append, List.length_append]; exact hown', hu', hb1⟩
      case measure => simp [lenOf]; omega

end Go.Proofs.YtogenboibgddaaaGreatDoor

namespace Go.Proofs.YtogenboibgddaaaGreatDoor
open Go.RowKit

/-- what a union is -/
structure IsUnion (ss tt K : List ByteArray) (code : Int) : Prop where
  bad : (setB ss && setB tt) = false → K = [] ∧ code = 4
  good : (setB ss && setB tt) = true → ∃ M, IsSorted (ss ++ tt) M ∧ (64 < M.length → K = [] ∧ code = 3) ∧ (M.length ≤ 64 → K = M ∧ code = 0)

theorem IsUnion.unique {ss tt K K' : List ByteArray} {c c' : Int} (h : IsUnion ss tt K c) (h' : IsUnion ss tt K' c') : K = K' ∧ c = c' := by
  cases hv : (setB ss && setB tt) with
  | false =>
    obtain ⟨rfl, rfl⟩ := h.bad hv
    obtain ⟨rfl, rfl⟩ := h'.bad hv
    exact ⟨rfl, rfl⟩
  | true =>
    obtain ⟨M, hM, h1, h2⟩ := h.good hv
    obtain ⟨M', hM', h1', h2'⟩ := h'.good hv
    have e := hM.unique hM'
    subst e
    by_cases hl : 64 < M.length
    · obtain ⟨rfl, rfl⟩ := h1 hl
      obtain ⟨rfl, rfl⟩ := h1' hl
      exact ⟨rfl, rfl⟩
    · obtain ⟨rfl, rfl⟩ := h2 (by omega)
      obtain ⟨rfl, rfl⟩ := h2' (by omega)
      exact ⟨rfl, rfl⟩

theorem IsUnion.code {ss tt K : List ByteArray} {c : Int} (h : IsUnion ss tt K c) : 0 ≤ c ∧ c ≤ 4 := by
  cases hv : (setB ss && setB tt) with
  | false => obtain ⟨_, rfl⟩ := h.bad hv; omega
  | true =>
    obtain ⟨M, hM, h1, h2⟩ := h.good hv
    by_cases hl : 64 < M.length
    · obtain ⟨_, rfl⟩ := h1 hl; omega
    · obtain ⟨_, rfl⟩ := h2 (by omega); omega

theorem IsUnion.len {ss tt K : List ByteArray} {c : Int} (h : IsUnion ss tt K c) : K.length ≤ 64 := by
  cases hv : (setB ss && setB tt) with
  | false => obtain ⟨rfl, _⟩ := h.bad hv; simp
  | true =>
    obtain ⟨M, hM, h1, h2⟩ := h.good hv
    by_cases hl : 64 < M.length
    · obtain ⟨rfl, _⟩ := h1 hl; simp
    · obtain ⟨rfl, _⟩ := h2 (by omega); omega

theorem nth_append {ss tt : List ByteArray} {j : Nat} (h : j < (ss ++ tt).length) : nth (ss ++ tt) j = if j < ss.length then nth ss j else nth tt (j - ss.length) := by
  rw [nth_eq _ j h, List.getElem_append]
  split
  · rw [nth_eq _ _ (by assumption)]
  · rw [nth_eq _ _ (by simp at h; omega)]

theorem sizes_app {ss tt : List ByteArray} (h : ∀ j, j < ss.length → (nth ss j).size ≤ maxLen) (h' : ∀ j, j < tt.length → (nth tt j).size ≤ maxLen) : ∀ j, j < (ss ++ tt).length → (nth (ss ++ tt) j).size ≤ maxLen := by
  intro j hj
  rw [nth_append hj]
  split
  · exact h j (by assumption)
  · exact h' _ (by simp at hj; omega)

theorem IsUnion.sizes {ss tt K : List ByteArray} {c : Int} (h : IsUnion ss tt K c) (hs : ∀ j, j < ss.length → (nth ss j).size ≤ maxLen) (ht : ∀ j, j < tt.length → (nth tt j).size ≤ maxLen) : ∀ j, j < K.length → (nth K j).size ≤ maxLen := by
  cases hv : (setB ss && setB tt) with
  | false => obtain ⟨rfl, _⟩ := h.bad hv; intro j hj; simp at hj
  | true =>
    obtain ⟨M, hM, h1, h2⟩ := h.good hv
    by_cases hl : 64 < M.length
    · obtain ⟨rfl, _⟩ := h1 hl; intro j hj; simp at hj
    · obtain ⟨rfl, _⟩ := h2 (by omega)
      exact sizes_sorted hM (sizes_app hs ht)

theorem KA.sorted {ss tt K : List ByteArray} (h : KA ss tt ss.length tt.length K) : IsSorted (ss ++ tt) K :=
  ⟨h.rise, fun x => by rw [h.mem, List.take_length, List.take_length, List.mem_append]⟩

theorem un_parts {ss : List ByteArray} (h : setB ss = true) : ss.length ≤ 64 ∧ risB ss = true := by
  simp [setB] at h; exact ⟨h.1, h.2.2⟩

/-- what the two answer -/
def UnAns (w : World) (ss tt : List ByteArray) (e : Ending) (w' : World) : Prop :=
  ∃ x cx K c, e = .returned (.tuple #[.slice x K.length cx, .int .i64 c]) ∧ w'.ownsRow w.heap.size 9 1 (.slice x K.length cx) K.length (K.map Value.string) ∧ Below w.heap.size w w' ∧ IsUnion ss tt K c

theorem UnAns.nil {w w' : World} {ss tt : List ByteArray} {c : Int} (h : IsUnion ss tt [] c) (hb : Below w.heap.size w w') : UnAns w ss tt (.returned (.tuple #[.slice none 0 0, .int .i64 c])) w' :=
  ⟨none, 0, [], c, rfl, World.ownsRow_nil _ _ _ _, hb, h⟩

theorem IsUnion.of_bad {ss tt : List ByteArray} (h : (setB ss && setB tt) = false) : IsUnion ss tt [] 4 := ⟨fun _ => ⟨rfl, rfl⟩, fun k => by rw [h] at k; cases k⟩
theorem IsUnion.of_wide {ss tt M : List ByteArray} (h : (setB ss && setB tt) = true) (hM : IsSorted (ss ++ tt) M) (hl : 64 < M.length) : IsUnion ss tt [] 3 :=
  ⟨fun k => (by rw [h] at k; cases k), fun _ => ⟨M, hM, fun _ => ⟨rfl, rfl⟩, fun k => by omega⟩⟩
theorem IsUnion.of_good {ss tt M : List ByteArray} (h : (setB ss && setB tt) = true) (hM : IsSorted (ss ++ tt) M) (hl : M.length ≤ 64) : IsUnion ss tt M 0 :=
  ⟨fun k => (by rw [h] at k; cases k), fun _ => ⟨M, hM, fun k => (by omega), fun _ => ⟨rfl, rfl⟩⟩⟩

variable {aS aO aZ aW : Addr}

/-- what unite answers -/
def UniteAns (aS aO aZ aW : Addr) (w : World) (ss tt : List ByteArray) (e : Ending) (w' : World) : Prop :=
  ∃ x cx K c, e = .returned (.tuple #[.slice x K.length cx, errV aS aO aZ aW c]) ∧ w'.ownsRow w.heap.size 9 1 (.slice x K.length cx) K.length (K.map Value.string) ∧ Below w.heap.size w w' ∧ IsUnion ss tt K c

theorem UniteAns.nil {w w' : World} {ss tt : List ByteArray} {c : Int} (h : IsUnion ss tt [] c) (hb : Below w.heap.size w w') : UniteAns aS aO aZ aW w ss tt (.returned (.tuple #[.slice none 0 0, errV aS aO aZ aW c])) w' :=
  ⟨none, 0, [], c, rfl, World.ownsRow_nil _ _ _ _, hb, h⟩

set_option maxHeartbeats 1600000 in
theorem unite_any (a : Option Addr) (n c : Nat) (ss : List ByteArray) (a' : Option Addr) (n' c' : Nat) (tt : List ByteArray) (w : World) (hs : Sent w aS aO aZ aW) (h : Strs w a n c ss) (h' : Strs w a' n' c' tt) :
    Calls Tryz.prog 133 #[.slice a n c, .slice a' n' c'] w fun e w' => UniteAns aS aO aZ aW w ss tt e w' := by
  cases v1 : setB ss
  · have Hn := hide (IsUnion.of_bad (ss := ss) (tt := tt) (by rw [v1]; rfl))
    go_enter Tryz.func133, Tryz.ntmps133
    go_wp2_with fail
    refine (iIsSet_any _ _ _ _ _ h).mono ?_
    rintro e w1 ⟨rfl, hb1⟩
    rw [v1]
    have hg := (hs.below hb1 (Nat.le_refl _)).g0
    go_wp2
    go_quiet (fail)
    go_wp2
    go_ret2
    exact UniteAns.nil (unhide Hn) (below_drewN hb1 _)
  · cases v2 : setB tt
    · have Hn := hide (IsUnion.of_bad (ss := ss) (tt := tt) (by rw [v1, v2]; rfl))
      go_enter Tryz.func133, Tryz.ntmps133
      go_wp2_with fail
      refine (iIsSet_any _ _ _ _ _ h).mono ?_
      rintro e w1 ⟨rfl, hb1⟩
      rw [v1]
      go_wp2_with fail
      refine (iIsSet_any _ _ _ _ _ (h'.below hb1 (Nat.le_refl _))).mono ?_
      rintro e w2 ⟨rfl, hb2⟩
      rw [v2]
      have B2 := hb1.trans (hb2.mono hb1.size)
      have hg := (hs.below B2 (Nat.le_refl _)).g0
      go_wp2
      go_quiet (fail)
      go_wp2
      go_ret2
      exact UniteAns.nil (unhide Hn) (below_drewN B2 _)
    · obtain ⟨hn, hr⟩ := un_parts v1
      obtain ⟨hn', hr'⟩ := un_parts v2
      have Hr := hide hr
      have Hr' := hide hr'
      clear hr hr'
      have Hv := hide (show (setB ss && setB tt) = true by rw [v1, v2]; rfl)
      go_enter Tryz.func133, Tryz.ntmps133
      go_wp2_with fail
      refine (iIsSet_any _ _ _ _ _ h).mono ?_
      rintro e w1 ⟨rfl, hb1⟩
      rw [v1]
      go_wp2_with fail
      refine (iIsSet_any _ _ _ _ _ (h'.below hb1 (Nat.le_refl _))).mono ?_
      rintro e w2 ⟨rfl, hb2⟩
      rw [v2]
      have B2 := hb1.trans (hb2.mono hb1.size)
      go_wp2_with fail
      refine (merge_KA _ _ _ _ _ _ _ _ _ (h.below B2 (Nat.le_refl _)) (h'.below B2 (Nat.le_refl _)) (unhide Hr) (unhide Hr') (by have := h.len; omega) (by have := h'.len; omega)).mono ?_
      rintro e w3 ⟨x, cx, K, rfl, ho, hb3, hK⟩
      have HK := hide hK.sorted
      clear hK
      have B3 := B2.trans (hb3.mono B2.size)
      by_cases hl : 64 < K.length
      · have il : (64 : Int) < (K.length : Int) := by omega
        have hg := (hs.below B3 (Nat.le_refl _)).g3
        go_wp2
        go_quiet (fail)
        go_wp2
        go_ret2
        exact UniteAns.nil (IsUnion.of_wide (unhide Hv) (unhide HK) hl) (below_drewN B3 _)
      · have il : (K.length : Int) ≤ 64 := by omega
        go_wp2
        go_ret2
        exact ⟨x, cx, K, 0, rfl, owns_mono ho B2.size, B3, IsUnion.of_good (unhide Hv) (unhide HK) (by omega)⟩

theorem Strs.news {w : World} {b off n c : Nat} {ss : List ByteArray} (hq : Strs w (some ⟨b, off, none⟩) n c ss) : ∀ j u, (ss.map Value.string)[j]? = some u → w.cell? ((⟨b, off, none⟩ : Addr).add j) = some u := fun j u hu => by
  rw [List.getElem?_map, Option.map_eq_some_iff] at hu
  obtain ⟨s, hs, rfl⟩ := hu
  have hj : j < ss.length := (List.getElem?_eq_some_iff.1 hs).1
  obtain ⟨b1, off1, ha, _, hc⟩ := hq.cells j (by have := hq.len; omega)
  simp only [Option.some.injEq, Addr.mk.injEq, and_true] at ha
  obtain ⟨rfl, rfl⟩ := ha
  have hadd : (⟨b, off, none⟩ : Addr).add j = ⟨b, off + j, none⟩ := by by_cases e : j = 0 <;> simp [Addr.add, e]
  rw [hadd, hc, nth_eq _ j hj]
  rw [List.getElem?_eq_getElem hj] at hs
  cases hs; rfl

end Go.Proofs.YtogenboibgddaaaGreatDoor

namespace Go.Proofs.YtogenboibgddaaaGreatDoor
open Go.RowKit

def meetL (ss tt : List ByteArray) : List ByteArray := if setB ss && setB tt then pick ss tt true else []

theorem meet_parts {ss : List ByteArray} (h : setB ss = true) : ss.length ≤ 64 ∧ risB ss = true := by
  simp [setB] at h; exact ⟨h.1, h.2.2⟩

theorem meet_sizes (ss tt : List ByteArray) (h : ∀ j, j < ss.length → (nth ss j).size ≤ maxLen) : ∀ j, j < (meetL ss tt).length → (nth (meetL ss tt) j).size ≤ maxLen := by
  unfold meetL
  split
  · exact sizes_pick ss tt true h
  · intro j hj; simp at hj

theorem meet_len (ss tt : List ByteArray) : (meetL ss tt).length ≤ ss.length := by
  unfold meetL
  split
  · exact pick_len _ _ _
  · simp

/-- what the two answer -/
def meetAns (w : World) (ss tt : List ByteArray) (e : Ending) (w' : World) : Prop :=
  ∃ x cx, e = .returned (.slice x (meetL ss tt).length cx) ∧ w'.ownsRow w.heap.size 9 1 (.slice x (meetL ss tt).length cx) (meetL ss tt).length ((meetL ss tt).map Value.string) ∧ Below w.heap.size w w'

theorem meetAns_nil {w w' : World} {ss tt : List ByteArray} (h : meetL ss tt = []) (hb : Below w.heap.size w w') : meetAns w ss tt (.returned (.slice none 0 0)) w' := by
  unfold meetAns
  rw [h]
  exact ⟨none, 0, rfl, World.ownsRow_nil _ _ _ _, hb⟩

set_option maxHeartbeats 800000 in
theorem iMeet_any (a : Option Addr) (n c : Nat) (ss : List ByteArray) (a' : Option Addr) (n' c' : Nat) (tt : List ByteArray) (w : World) (h : Strs w a n c ss) (h' : Strs w a' n' c' tt) :
    Calls Tryz.prog 134 #[.slice a n c, .slice a' n' c'] w fun e w' => meetAns w ss tt e w' := by
  cases v1 : setB ss
  · have Hn := hide (show meetL ss tt = [] by simp [meetL, v1])
    go_enter Tryz.func134, Tryz.ntmps134
    go_wp2_with fail
    refine (iIsSet_any _ _ _ _ _ h).mono ?_
    rintro e w1 ⟨rfl, hb1⟩
    rw [v1]
    go_wp2_with fail
    go_ret
    exact meetAns_nil (unhide Hn) hb1
  · cases v2 : setB tt
    · have Hn := hide (show meetL ss tt = [] by simp [meetL, v2])
      go_enter Tryz.func134, Tryz.ntmps134
      go_wp2_with fail
      refine (iIsSet_any _ _ _ _ _ h).mono ?_
      rintro e w1 ⟨rfl, hb1⟩
      rw [v1]
      go_wp2_with fail
      refine (iIsSet_any _ _ _ _ _ (h'.below hb1 (Nat.le_refl _))).mono ?_
      rintro e w2 ⟨rfl, hb2⟩
      rw [v2]
      go_wp2_with fail
      go_ret
      exact meetAns_nil (unhide Hn) (hb1.trans (hb2.mono hb1.size))
    · obtain ⟨hn, hr⟩ := meet_parts v1
      obtain ⟨hn', hr'⟩ := meet_parts v2
      have Hr := hide hr
      have Hr' := hide hr'
      clear hr hr'
      have Hn := hide (show meetL ss tt = pick ss tt true by simp [meetL, v1, v2])
      go_enter Tryz.func134, Tryz.ntmps134
      go_wp2_with fail
      refine (iIsSet_any _ _ _ _ _ h).mono ?_
      rintro e w1 ⟨rfl, hb1⟩
      rw [v1]
      go_wp2_with fail
      refine (iIsSet_any _ _ _ _ _ (h'.below hb1 (Nat.le_refl _))).mono ?_
      rintro e w2 ⟨rfl, hb2⟩
      rw [v2]
      have B2 := hb1.trans (hb2.mono hb1.size)
      go_wp2_with fail
      refine (merge_KB _ _ _ _ _ _ _ _ _ (h.below B2 (Nat.le_refl _)) (h'.below B2 (Nat.le_refl _)) (unhide Hr) (unhide Hr') (by have := h.len; omega) (by have := h'.len; omega)).mono ?_
      rintro e w3 ⟨x, cx, K, rfl, ho, hb3, hK⟩
      have HK := hide hK.last
      clear hK
      go_wp2_with fail
      go_ret
      have e1 : K = meetL ss tt := by rw [unhide HK, unhide Hn]
      subst e1
      exact ⟨x, cx, rfl, owns_mono ho B2.size, B2.trans (hb3.mono B2.size)⟩

end Go.Proofs.YtogenboibgddaaaGreatDoor

namespace Go.Proofs.YtogenboibgddaaaGreatDoor
open Go.RowKit

def minusL (ss tt : List ByteArray) : List ByteArray := if setB ss && setB tt then pick ss tt false else []

theorem minus_parts {ss : List ByteArray} (h : setB ss = true) : ss.length ≤ 64 ∧ risB ss = true := by
  simp [setB] at h; exact ⟨h.1, h.2.2⟩

theorem minus_sizes (ss tt : List ByteArray) (h : ∀ j, j < ss.length → (nth ss j).size ≤ maxLen) : ∀ j, j < (minusL ss tt).length → (nth (minusL ss tt) j).size ≤ maxLen := by
  unfold minusL
  split
  · exact sizes_pick ss tt false h
  · intro j hj; simp at hj

theorem minus_len (ss tt : List ByteArray) : (minusL ss tt).length ≤ ss.length := by
  unfold minusL
  split
  · exact pick_len _ _ _
  · simp

/-- what the two answer -/
def minusAns (w : World) (ss tt : List ByteArray) (e : Ending) (w' : World) : Prop :=
  ∃ x cx, e = .returned (.slice x (minusL ss tt).length cx) ∧ w'.ownsRow w.heap.size 9 1 (.slice x (minusL ss tt).length cx) (minusL ss tt).length ((minusL ss tt).map Value.string) ∧ Below w.heap.size w w'

theorem minusAns_nil {w w' : World} {ss tt : List ByteArray} (h : minusL ss tt = []) (hb : Below w.heap.size w w') : minusAns w ss tt (.returned (.slice none 0 0)) w' := by
  unfold minusAns
  rw [h]
  exact ⟨none, 0, rfl, World.ownsRow_nil _ _ _ _, hb⟩

set_option maxHeartbeats 800000 in
theorem iMinus_any (a : Option Addr) (n c : Nat) (ss : List ByteArray) (a' : Option Addr) (n' c' : Nat) (tt : List ByteArray) (w : World) (h : Strs w a n c ss) (h' : Strs w a' n' c' tt) :
    Calls Tryz.prog 135 #[.slice a n c, .slice a' n' c'] w fun e w' => minusAns w ss tt e w' := by
  cases v1 : setB ss
  · have Hn := hide (show minusL ss tt = [] by simp [minusL, v1])
    go_enter Tryz.func135, Tryz.ntmps135
    go_wp2_with fail
    refine (iIsSet_any _ _ _ _ _ h).mono ?_
    rintro e w1 ⟨rfl, hb1⟩
    rw [v1]
    go_wp2_with fail
    go_ret
    exact minusAns_nil (unhide Hn) hb1
  · cases v2 : setB tt
    · have Hn := hide (show minusL ss tt = [] by simp [minusL, v2])
      go_enter Tryz.func135, Tryz.ntmps135
      go_wp2_with fail
      refine (iIsSet_any _ _ _ _ _ h).mono ?_
      rintro e w1 ⟨rfl, hb1⟩
      rw [v1]
      go_wp2_with fail
      refine (iIsSet_any _ _ _ _ _ (h'.below hb1 (Nat.le_refl _))).mono ?_
      rintro e w2 ⟨rfl, hb2⟩
      rw [v2]
      go_wp2_with fail
      go_ret
      exact minusAns_nil (unhide Hn) (hb1.trans (hb2.mono hb1.size))
    · obtain ⟨hn, hr⟩ := minus_parts v1
      obtain ⟨hn', hr'⟩ := minus_parts v2
      have Hr := hide hr
      have Hr' := hide hr'
      clear hr hr'
      have Hn := hide (show minusL ss tt = pick ss tt false by simp [minusL, v1, v2])
      go_enter Tryz.func135, Tryz.ntmps135
      go_wp2_with fail
      refine (iIsSet_any _ _ _ _ _ h).mono ?_
      rintro e w1 ⟨rfl, hb1⟩
      rw [v1]
      go_wp2_with fail
      refine (iIsSet_any _ _ _ _ _ (h'.below hb1 (Nat.le_refl _))).mono ?_
      rintro e w2 ⟨rfl, hb2⟩
      rw [v2]
      have B2 := hb1.trans (hb2.mono hb1.size)
      go_wp2_with fail
      refine (merge_KL _ _ _ _ _ _ _ _ _ (h.below B2 (Nat.le_refl _)) (h'.below B2 (Nat.le_refl _)) (unhide Hr) (unhide Hr') (by have := h.len; omega) (by have := h'.len; omega)).mono ?_
      rintro e w3 ⟨x, cx, K, rfl, ho, hb3, hK⟩
      have HK := hide hK.last
      clear hK
      go_wp2_with fail
      go_ret
      have e1 : K = minusL ss tt := by rw [unhide HK, unhide Hn]
      subst e1
      exact ⟨x, cx, rfl, owns_mono ho B2.size, B2.trans (hb3.mono B2.size)⟩

end Go.Proofs.YtogenboibgddaaaGreatDoor

namespace Go.Proofs.YtogenboibgddaaaGreatDoor
open Go.RowKit

def withinB (ss tt : List ByteArray) : Bool := setB ss && (setB tt && decide ((pick ss tt false).length = 0))

theorem set_parts {ss : List ByteArray} (h : setB ss = true) : ss.length ≤ 64 ∧ risB ss = true := by
  simp [setB] at h; exact ⟨h.1, h.2.2⟩

set_option maxHeartbeats 800000 in
theorem iWithin_any (a : Option Addr) (n c : Nat) (ss : List ByteArray) (a' : Option Addr) (n' c' : Nat) (tt : List ByteArray) (w : World) (h : Strs w a n c ss) (h' : Strs w a' n' c' tt) :
    Calls Tryz.prog 136 #[.slice a n c, .slice a' n' c'] w fun e w' => e = .returned (.bool (withinB ss tt)) ∧ Below w.heap.size w w' := by
  cases v1 : setB ss
  · go_enter Tryz.func136, Tryz.ntmps136
    go_wp2_with fail
    refine (iIsSet_any _ _ _ _ _ h).mono ?_
    rintro e w1 ⟨rfl, hb1⟩
    go_wp2_with fail
    go_ret
    exact ⟨ret_bool (by simp [withinB, v1]), hb1⟩
  · cases v2 : setB tt
    · go_enter Tryz.func136, Tryz.ntmps136
      go_wp2_with fail
      refine (iIsSet_any _ _ _ _ _ h).mono ?_
      rintro e w1 ⟨rfl, hb1⟩
      go_wp2_with fail
      refine (iIsSet_any _ _ _ _ _ (h'.below hb1 (Nat.le_refl _))).mono ?_
      rintro e w2 ⟨rfl, hb2⟩
      go_wp2_with fail
      go_ret
      exact ⟨ret_bool (by simp [withinB, v2]), hb1.trans (hb2.mono hb1.size)⟩
    · obtain ⟨hn, hr⟩ := set_parts v1
      obtain ⟨hn', hr'⟩ := set_parts v2
      have Hr := hide hr
      have Hr' := hide hr'
      clear hr hr'
      go_enter Tryz.func136, Tryz.ntmps136
      go_wp2_with fail
      refine (iIsSet_any _ _ _ _ _ h).mono ?_
      rintro e w1 ⟨rfl, hb1⟩
      go_wp2_with fail
      refine (iIsSet_any _ _ _ _ _ (h'.below hb1 (Nat.le_refl _))).mono ?_
      rintro e w2 ⟨rfl, hb2⟩
      have B2 := hb1.trans (hb2.mono hb1.size)
      go_wp2_with fail
      refine (merge_KL _ _ _ _ _ _ _ _ _ (h.below B2 (Nat.le_refl _)) (h'.below B2 (Nat.le_refl _)) (unhide Hr) (unhide Hr') (by have := h.len; omega) (by have := h'.len; omega)).mono ?_
      rintro e w3 ⟨x, cx, K, rfl, ho, hb3, hK⟩
      clear ho
      have HK := hide hK.last
      clear hK
      go_wp2_with fail
      go_ret
      refine ⟨ret_bool ?_, B2.trans (hb3.mono B2.size)⟩
      rw [unhide HK]
      simp only [withinB, v1, v2, Bool.true_and]
      rw [Bool.eq_iff_iff]; simp

end Go.Proofs.YtogenboibgddaaaGreatDoor

namespace Go.Proofs.YtogenboibgddaaaGreatDoor
open Go.RowKit
set_option linter.unusedVariables false

/-- a value -/
inductive Vv where
  | bool (b : Bool)
  | int (n : Int)
  | text (s : ByteArray)
  | set (ss : List ByteArray)

def Vv.ty : Vv → Int
  | .bool _ => 1
  | .int _ => 2
  | .text _ => 3
  | .set _ => 4

/-- a value, or an error -/
inductive Ev where
  | ok (v : Vv)
  | err (c : Int)

/-- a request -/
structure Rq where
  cl : ByteArray
  us : ByteArray
  lv : Int
  nw : Int
  s1 : List ByteArray
  s2 : List ByteArray

open Classical in
noncomputable def unionK (ss tt : List ByteArray) : List ByteArray × Int := if h : ∃ p : List ByteArray × Int, IsUnion ss tt p.1 p.2 then Classical.choose h else ([], 4)

theorem unionK_of {ss tt K : List ByteArray} {c : Int} (h : IsUnion ss tt K c) : unionK ss tt = (K, c) := by
  have hx : ∃ p : List ByteArray × Int, IsUnion ss tt p.1 p.2 := ⟨(K, c), h⟩
  rw [unionK, dif_pos hx]
  obtain ⟨e1, e2⟩ := (Classical.choose_spec hx).unique h
  exact Prod.ext e1 e2

def ofCalc (p : Int × Int) : Ev := if p.2 = 0 then .ok (.int p.1) else .err p.2
def ofUnion (p : List ByteArray × Int) : Ev := if p.2 = 0 then .ok (.set p.1) else .err p.2

def evUn (op : Int) (v : Vv) : Ev := match v with
  | .int n => if op = 8 then ofCalc (calcF 2 0 n) else .err 4
  | .bool b => if op = 9 then .ok (.bool (!b)) else .err 4
  | .set ss => if op = 10 then .ok (.int ss.length) else .err 4
  | .text _ => .err 4

open Classical in
noncomputable def sameV (v u : Vv) : Bool := decide (v = u)

open Classical in
noncomputable def evBin (op : Int) (v u : Vv) : Ev :=
  if op = 19 then .ok (.bool (sameV v u)) else if op = 20 then .ok (.bool (!sameV v u))
  else match v, u with
    | .text s, .set ss => if op = 23 then .ok (.bool (decide (s ∈ ss))) else .err 4
    | .set ss, .set tt => if op = 16 then ofUnion (unionK ss tt) else if op = 17 then .ok (.set (meetL ss tt)) else if op = 18 then .ok (.set (minusL ss tt)) else if op = 24 then .ok (.bool (withinB ss tt)) else .err 4
    | .int a, .int b => if op = 21 then .ok (.bool (decide (a < b))) else if op = 22 then .ok (.bool (decide (a ≤ b))) else if 11 ≤ op ∧ op ≤ 15 then ofCalc (calcF (op - 10) a b) else .err 4
    | _, _ => .err 4

def attrV (R : Rq) (n : Int) : Vv := if n < 2 then (if n = 1 then .text R.us else .text R.cl) else if n < 4 then (if n = 3 then .int R.nw else .int R.lv) else if n = 4 then .set R.s1 else .set R.s2

theorem tyOp1_inv {op a t : Int} (h : nz (tyOp op [a]) = some t) : (op = 8 ∧ a = 2 ∧ t = 2) ∨ (op = 9 ∧ a = 1 ∧ t = 1) ∨ (op = 10 ∧ a = 4 ∧ t = 2) := by
  obtain ⟨h1, h0⟩ := nz_some h
  simp only [tyOp] at h1
  by_cases c1 : op = 8 ∧ a = 2
  · rw [if_pos c1] at h1; exact .inl ⟨c1.1, c1.2, h1.symm⟩
  rw [if_neg c1] at h1
  by_cases c2 : op = 9 ∧ a = 1
  · rw [if_pos c2] at h1; exact .inr (.inl ⟨c2.1, c2.2, h1.symm⟩)
  rw [if_neg c2] at h1
  by_cases c3 : op = 10 ∧ a = 4
  · rw [if_pos c3] at h1; exact .inr (.inr ⟨c3.1, c3.2, h1.symm⟩)
  rw [if_neg c3] at h1
  exact absurd h1.symm h0

theorem tyOp2_inv {op a b t : Int} (h : nz (tyOp op [a, b]) = some t) : ((11 ≤ op ∧ op ≤ 15) ∧ a = 2 ∧ b = 2 ∧ t = 2) ∨ ((16 ≤ op ∧ op ≤ 18) ∧ a = 4 ∧ b = 4 ∧ t = 4) ∨ ((op = 19 ∨ op = 20) ∧ a = b ∧ t = 1) ∨ ((op = 21 ∨ op = 22) ∧ a = 2 ∧ b = 2 ∧ t = 1) ∨ (op = 23 ∧ a = 3 ∧ b = 4 ∧ t = 1) ∨ (op = 24 ∧ a = 4 ∧ b = 4 ∧ t = 1) ∨ ((op = 25 ∨ op = 26) ∧ a = 1 ∧ b = 1 ∧ t = 1) := by
  obtain ⟨h1, h0⟩ := nz_some h
  simp only [tyOp] at h1
  by_cases c1 : (11 ≤ op ∧ op ≤ 15) ∧ a = 2 ∧ b = 2
  · rw [if_pos c1] at h1; exact .inl ⟨c1.1, c1.2.1, c1.2.2, h1.symm⟩
  rw [if_neg c1] at h1
  by_cases c2 : (16 ≤ op ∧ op ≤ 18) ∧ a = 4 ∧ b = 4
  · rw [if_pos c2] at h1; exact .inr (.inl ⟨c2.1, c2.2.1, c2.2.2, h1.symm⟩)
  rw [if_neg c2] at h1
  by_cases c3 : (op = 19 ∨ op = 20) ∧ a = b
  · rw [if_pos c3] at h1; exact .inr (.inr (.inl ⟨c3.1, c3.2, h1.symm⟩))
  rw [if_neg c3] at h1
  by_cases c4 : (op = 21 ∨ op = 22) ∧ a = 2 ∧ b = 2
  · rw [if_pos c4] at h1; exact .inr (.inr (.inr (.inl ⟨c4.1, c4.2.1, c4.2.2, h1.symm⟩)))
  rw [if_neg c4] at h1
  by_cases c5 : op = 23 ∧ a = 3 ∧ b = 4
  · rw [if_pos c5] at h1; exact .inr (.inr (.inr (.inr (.inl ⟨c5.1, c5.2.1, c5.2.2, h1.symm⟩))))
  rw [if_neg c5] at h1
  by_cases c6 : op = 24 ∧ a = 4 ∧ b = 4
  · rw [if_pos c6] at h1; exact .inr (.inr (.inr (.inr (.inr (.inl ⟨c6.1, c6.2.1, c6.2.2, h1.symm⟩)))))
  rw [if_neg c6] at h1
  by_cases c7 : (op = 25 ∨ op = 26) ∧ a = 1 ∧ b = 1
  · rw [if_pos c7] at h1; exact .inr (.inr (.inr (.inr (.inr (.inr ⟨c7.1, c7.2.1, c7.2.2, h1.symm⟩)))))
  rw [if_neg c7] at h1
  exact absurd h1.symm h0

theorem Vv.bool_of {v : Vv} (h : v.ty = 1) : ∃ b, v = .bool b := by cases v <;> first | exact ⟨_, rfl⟩ | (simp [Vv.ty] at h)
theorem Vv.int_of {v : Vv} (h : v.ty = 2) : ∃ b, v = .int b := by cases v <;> first | exact ⟨_, rfl⟩ | (simp [Vv.ty] at h)
theorem Vv.text_of {v : Vv} (h : v.ty = 3) : ∃ b, v = .text b := by cases v <;> first | exact ⟨_, rfl⟩ | (simp [Vv.ty] at h)
theorem Vv.set_of {v : Vv} (h : v.ty = 4) : ∃ b, v = .set b := by cases v <;> first | exact ⟨_, rfl⟩ | (simp [Vv.ty] at h)

theorem evBin_num {op a b : Int} (h : 11 ≤ op ∧ op ≤ 15) : evBin op (.int a) (.int b) = ofCalc (calcF (op - 10) a b) := by
  rw [evBin, if_neg (by omega), if_neg (by omega)]
  rw [if_neg (by omega), if_neg (by omega), if_pos h]
theorem evBin_less (a b : Int) : evBin 21 (.int a) (.int b) = .ok (.bool (decide (a < b))) := rfl
theorem evBin_most (a b : Int) : evBin 22 (.int a) (.int b) = .ok (.bool (decide (a ≤ b))) := rfl
theorem evBin_union (a b : List ByteArray) : evBin 16 (.set a) (.set b) = ofUnion (unionK a b) := rfl
theorem evBin_meet (a b : List ByteArray) : evBin 17 (.set a) (.set b) = .ok (.set (meetL a b)) := rfl
theorem evBin_minus (a b : List ByteArray) : evBin 18 (.set a) (.set b) = .ok (.set (minusL a b)) := rfl
theorem evBin_within (a b : List ByteArray) : evBin 24 (.set a) (.set b) = .ok (.bool (withinB a b)) := rfl
theorem evBin_eq (v u : Vv) : evBin 19 v u = .ok (.bool (sameV v u)) := rfl
theorem evBin_ne (v u : Vv) : evBin 20 v u = .ok (.bool (!sameV v u)) := rfl
open Classical in
theorem evBin_in (s : ByteArray) (b : List ByteArray) : evBin 23 (.text s) (.set b) = .ok (.bool (decide (s ∈ b))) := rfl

theorem ofCalc_ty {p : Int × Int} {u : Vv} (h : ofCalc p = .ok u) : u.ty = 2 := by
  unfold ofCalc at h
  split at h
  · cases h; rfl
  · cases h
theorem ofUnion_ty {p : List ByteArray × Int} {u : Vv} (h : ofUnion p = .ok u) : u.ty = 4 := by
  unfold ofUnion at h
  split at h
  · cases h; rfl
  · cases h

theorem evUn_ty {op t : Int} {v : Vv} (h : nz (tyOp op [v.ty]) = some t) : ∀ u, evUn op v = .ok u → u.ty = t := by
  intro u hu
  rcases tyOp1_inv h with ⟨rfl, hv, rfl⟩ | ⟨rfl, hv, rfl⟩ | ⟨rfl, hv, rfl⟩
  · obtain ⟨n, rfl⟩ := Vv.int_of hv
    exact ofCalc_ty hu
  · obtain ⟨n, rfl⟩ := Vv.bool_of hv
    cases hu; rfl
  · obtain ⟨n, rfl⟩ := Vv.set_of hv
    cases hu; rfl

theorem evBin_ty {op t : Int} {v w : Vv} (h : nz (tyOp op [v.ty, w.ty]) = some t) (hc : op ≠ 25 ∧ op ≠ 26) : ∀ u, evBin op v w = .ok u → u.ty = t := by
  intro u hu
  rcases tyOp2_inv h with ⟨ho, hv, hw, rfl⟩ | ⟨ho, hv, hw, rfl⟩ | ⟨ho, hv, rfl⟩ | ⟨ho, hv, hw, rfl⟩ | ⟨rfl, hv, hw, rfl⟩ | ⟨rfl, hv, hw, rfl⟩ | ⟨ho, hv, hw, rfl⟩
  · obtain ⟨a, rfl⟩ := Vv.int_of hv
    obtain ⟨b, rfl⟩ := Vv.int_of hw
    rw [evBin_num ho] at hu
    exact ofCalc_ty hu
  · obtain ⟨a, rfl⟩ := Vv.set_of hv
    obtain ⟨b, rfl⟩ := Vv.set_of hw
    rcases (show op = 16 ∨ op = 17 ∨ op = 18 by omega) with rfl | rfl | rfl
    · exact ofUnion_ty hu
    · cases hu; rfl
    · cases hu; rfl
  · rcases ho with rfl | rfl
    · cases hu; rfl
    · cases hu; rfl
  · obtain ⟨a, rfl⟩ := Vv.int_of hv
    obtain ⟨b, rfl⟩ := Vv.int_of hw
    rcases ho with rfl | rfl
    · cases hu; rfl
    · cases hu; rfl
  · obtain ⟨a, rfl⟩ := Vv.text_of hv
    obtain ⟨b, rfl⟩ := Vv.set_of hw
    cases hu; rfl
  · obtain ⟨a, rfl⟩ := Vv.set_of hv
    obtain ⟨b, rfl⟩ := Vv.set_of hw
    cases hu; rfl
  · omega

end Go.Proofs.YtogenboibgddaaaGreatDoor

namespace Go.Proofs.YtogenboibgddaaaGreatDoor
open Go.RowKit
set_option linter.unusedVariables false

variable {aS aO aZ aW : Addr} {G : Nat → Prop}

/-- a value of the program's; G: the blocks in which a set may lie -/
def VIs (G : Nat → Prop) (w : World) (x : Value) : Vv → Prop
  | .bool b => x = .iface 142 (.bool b)
  | .int n => x = .iface 165 (.int .i64 n) ∧ I64 n
  | .text s => x = .iface 166 (.string s)
  | .set ss => ∃ a n c, x = .iface 167 (.slice a n c) ∧ Strs w a n c ss ∧ ss.length ≤ 1048576 ∧ ∀ ad, a = some ad → 0 < n → G ad.block

theorem VIs.below {w w' : World} {B : Nat} {x : Value} {v : Vv} (h : VIs G w x v) (hb : Below B w w') (hB : w.heap.size ≤ B) : VIs G w' x v := by
  cases v with
  | bool b => exact h
  | int n => exact h
  | text s => exact h
  | set ss =>
    obtain ⟨a, n, c, h1, h2⟩ := h
    exact ⟨a, n, c, h1, h2.1.below hb hB, h2.2⟩

theorem VIs.form {w : World} {x : Value} {v : Vv} (h : VIs G w x v) : ∃ t u, x = .iface t u := by
  cases v with
  | bool b => exact ⟨_, _, h⟩
  | int n => exact ⟨_, _, h.1⟩
  | text s => exact ⟨_, _, h⟩
  | set ss => obtain ⟨_, _, _, h, _⟩ := h; exact ⟨_, _, h⟩

theorem tm_bool (xT : TypeId) (v : Value) (w : World) : (Instr.typeAssert (.iface 142 v) xT 142 false).run Tryz.prog w = .ok v w := by simp [Instr.typeAssert, run_underlying Tryz.underlying142]
theorem tk_bool (xT : TypeId) (v : Value) (w : World) : (Instr.typeAssert (.iface 142 v) xT 142 true).run Tryz.prog w = .ok (.tuple #[v, .bool true]) w := by simp [Instr.typeAssert, run_underlying Tryz.underlying142]
theorem tm_int (xT : TypeId) (v : Value) (w : World) : (Instr.typeAssert (.iface 165 v) xT 165 false).run Tryz.prog w = .ok v w := by simp [Instr.typeAssert, run_underlying Tryz.underlying165]
theorem tk_int (xT : TypeId) (v : Value) (w : World) : (Instr.typeAssert (.iface 165 v) xT 165 true).run Tryz.prog w = .ok (.tuple #[v, .bool true]) w := by simp [Instr.typeAssert, run_underlying Tryz.underlying165]
theorem tm_text (xT : TypeId) (v : Value) (w : World) : (Instr.typeAssert (.iface 166 v) xT 166 false).run Tryz.prog w = .ok v w := by simp [Instr.typeAssert, run_underlying Tryz.underlying166]
theorem tk_text (xT : TypeId) (v : Value) (w : World) : (Instr.typeAssert (.iface 166 v) xT 166 true).run Tryz.prog w = .ok (.tuple #[v, .bool true]) w := by simp [Instr.typeAssert, run_underlying Tryz.underlying166]
theorem tm_set (xT : TypeId) (v : Value) (w : World) : (Instr.typeAssert (.iface 167 v) xT 167 false).run Tryz.prog w = .ok v w := by simp [Instr.typeAssert, run_underlying Tryz.underlying167]
theorem tk_set (xT : TypeId) (v : Value) (w : World) : (Instr.typeAssert (.iface 167 v) xT 167 true).run Tryz.prog w = .ok (.tuple #[v, .bool true]) w := by simp [Instr.typeAssert, run_underlying Tryz.underlying167]

theorem errV_form {c : Int} (h : 1 ≤ c ∧ c ≤ 4) : ∃ a, errV aS aO aZ aW c = .iface 216 (.pointer (some a)) := by
  rcases (show c = 1 ∨ c = 2 ∨ c = 3 ∨ c = 4 by omega) with rfl | rfl | rfl | rfl
  · exact ⟨_, rfl⟩
  · exact ⟨_, rfl⟩
  · exact ⟨_, rfl⟩
  · exact ⟨_, rfl⟩

/-- a value, or a plain error -/
def OAns (G : Nat → Prop) (aS aO aZ aW : Addr) (o : Ev) (w : World) (r : Ending) (w' : World) : Prop :=
  (match o with
    | .ok v => ∃ x, r = .returned (.tuple #[x, .nilIface]) ∧ VIs G w' x v
    | .err c => ∃ x, r = .returned (.tuple #[x, errV aS aO aZ aW c]) ∧ 1 ≤ c ∧ c ≤ 4) ∧ Below w.heap.size w w'

theorem fit_i64 (v : Int) : I64 (fit v).1 := by
  unfold fit
  split
  · rename_i h; exact ⟨h.1, h.2⟩
  · exact ⟨by decide, by decide⟩

theorem calcF_i64 (op a b : Int) : I64 (calcF op a b).1 := by
  unfold calcF divF modF
  repeat' split
  all_goals first | exact fit_i64 _ | exact ⟨by decide, by decide⟩

theorem fit_code4 (v : Int) : 0 ≤ (fit v).2 ∧ (fit v).2 ≤ 4 := by unfold fit; split <;> simp

theorem calcF_code4 (op a b : Int) : 0 ≤ (calcF op a b).2 ∧ (calcF op a b).2 ≤ 4 := by
  unfold calcF divF modF
  repeat' split
  all_goals first | exact fit_code4 _ | decide

set_option maxRecDepth 100000 in
set_option maxHeartbeats 1600000 in
theorem attrValue_any (cl us : ByteArray) (lv nw : Int) (a1 : Option Addr) (n1 c1 : Nat) (s1 : List ByteArray) (a2 : Option Addr) (n2 c2 : Nat) (s2 : List ByteArray) (w : World) (hl : I64 lv) (hn : I64 nw) (h1 : Strs w a1 n1 c1 s1) (h2 : Strs w a2 n2 c2 s2) (l1 : s1.length ≤ 1048576) (l2 : s2.length ≤ 1048576) (g1 : ∀ ad, a1 = some ad → 0 < n1 → G ad.block) (g2 : ∀ ad, a2 = some ad → 0 < n2 → G ad.block) (num : Int) (h : 0 ≤ num ∧ num < 6) :
    Calls Tryz.prog 89 #[.agg #[.string cl, .string us, .int .i64 lv, .int .i64 nw, .slice a1 n1 c1, .slice a2 n2 c2], .int .i64 num] w fun r w' => (∃ x, r = .returned x ∧ VIs G w' x (attrV ⟨cl, us, lv, nw, s1, s2⟩ num)) ∧ Below w.heap.size w w' := by
  have B0 := (Below.refl w.heap.size w).alloc (Nat.le_refl _) (.cells #[.string cl, .string us, .int .i64 lv, .int .i64 nw, .slice a1 n1 c1, .slice a2 n2 c2] 41)
  have H1 := h1.below B0 (Nat.le_refl _)
  have H2 := h2.below B0 (Nat.le_refl _)
  rcases (show num = 0 ∨ num = 1 ∨ num = 2 ∨ num = 3 ∨ num = 4 ∨ num = 5 by omega) with rfl | rfl | rfl | rfl | rfl | rfl
  · go_enter Tryz.func89, Tryz.ntmps89
    go_wp2_with fail
    go_ret
    exact ⟨⟨_, rfl, rfl⟩, B0⟩
  · go_enter Tryz.func89, Tryz.ntmps89
    go_wp2_with fail
    go_ret
    exact ⟨⟨_, rfl, rfl⟩, B0⟩
  · go_enter Tryz.func89, Tryz.ntmps89
    go_wp2_with fail
    go_ret
    exact ⟨⟨_, rfl, rfl, hl⟩, B0⟩
  · go_enter Tryz.func89, Tryz.ntmps89
    go_wp2_with fail
    go_ret
    exact ⟨⟨_, rfl, rfl, hn⟩, B0⟩
  · go_enter Tryz.func89, Tryz.ntmps89
    go_wp2_with fail
    go_ret
    exact ⟨⟨_, rfl, _, _, _, rfl, H1, l1, g1⟩, B0⟩
  · go_enter Tryz.func89, Tryz.ntmps89
    go_wp2_with fail
    go_ret
    exact ⟨⟨_, rfl, _, _, _, rfl, H2, l2, g2⟩, B0⟩

set_option maxRecDepth 100000 in
set_option maxHeartbeats 1600000 in
theorem one_any (op : Int) (x : Value) (v : Vv) (t : Int) (w : World) (hs : Sent w aS aO aZ aW) (hx : VIs G w x v) (ht : nz (tyOp op [v.ty]) = some t) :
    Calls Tryz.prog 120 #[.int .i64 op, x] w (OAns G aS aO aZ aW (evUn op v) w) := by
  have tmb := tm_bool
  have tmi := tm_int
  have tms := tm_set
  rcases tyOp1_inv ht with ⟨rfl, hv, _⟩ | ⟨rfl, hv, _⟩ | ⟨rfl, hv, _⟩
  · obtain ⟨n, rfl⟩ := Vv.int_of hv
    obtain ⟨rfl, hn⟩ : x = .iface 165 (.int .i64 n) ∧ I64 n := hx
    have HC := hide (calculate_any 2 0 n w hs ⟨by decide, by decide⟩ hn)
    have h1 := calcF_code4 2 0 n
    have h2 := calcF_i64 2 0 n
    have HE := hide (show evUn 8 (.int n) = ofCalc (calcF 2 0 n) from rfl)
    generalize calcF 2 0 n = p at HC h1 h2 HE
    obtain ⟨p1, p2⟩ := p
    clear hv
    by_cases h0 : p2 = 0
    · subst h0
      go_enter Tryz.func120, Tryz.ntmps120
      go_wp2_with fail
      refine (unhide HC).mono ?_
      rintro r w1 ⟨rfl, hb1⟩
      dsimp only [pairV, errV, if_true]
      go_wp2_with fail
      refine bodyPost_ret (v := .tuple #[.iface 165 (.int .i64 p1), .nilIface]) (by simp [results, Tryz.results120, go_sem]) rfl ?_
      rw [unhide HE]
      exact ⟨⟨_, rfl, rfl, h2⟩, hb1⟩
    · obtain ⟨a, ha⟩ := errV_form (aS := aS) (aO := aO) (aZ := aZ) (aW := aW) (c := p2) (by dsimp only at h1; omega)
      have Hp := hide h0
      have Hh := hide h1
      clear h0 h1
      go_enter Tryz.func120, Tryz.ntmps120
      go_wp2_with fail
      refine (unhide HC).mono ?_
      rintro r w1 ⟨rfl, hb1⟩
      dsimp only [pairV]
      rw [ha]
      go_wp2_with fail
      refine bodyPost_ret (v := .tuple #[.iface 165 (.int .i64 p1), .iface 216 (.pointer (some a))]) (by simp [results, Tryz.results120, go_sem]) rfl ?_
      rw [unhide HE, ofCalc, if_neg (unhide Hp)]
      have := unhide Hh
      have := unhide Hp
      exact ⟨⟨_, by rw [ha], by dsimp only at *; omega, by dsimp only at *; omega⟩, hb1⟩
  · obtain ⟨b, rfl⟩ := Vv.bool_of hv
    have e : x = .iface 142 (.bool b) := hx
    subst e
    go_enter Tryz.func120, Tryz.ntmps120
    go_wp2_with fail
    refine bodyPost_ret (v := .tuple #[.iface 142 (.bool (!b)), .nilIface]) (by simp [results, Tryz.results120, go_sem]) rfl ?_
    exact ⟨⟨_, rfl, rfl⟩, Below.refl _ _⟩
  · obtain ⟨ss, rfl⟩ := Vv.set_of hv
    obtain ⟨a, n, c, rfl, hS, _⟩ := hx
    have hl := hS.len
    have hc : n ≤ maxLen := Nat.le_trans hS.cap hS.small
    have hi : I64 (n : Int) := ⟨by omega, by unfold maxLen at hc; omega⟩
    subst hl
    go_enter Tryz.func120, Tryz.ntmps120
    go_wp2_with fail
    refine bodyPost_ret (v := .tuple #[.iface 165 (.int .i64 ss.length), .nilIface]) (by simp [results, Tryz.results120, go_sem]) rfl ?_
    exact ⟨⟨_, rfl, rfl, hi⟩, Below.refl _ _⟩

end Go.Proofs.YtogenboibgddaaaGreatDoor

/-
  What a text of an ask says. Own work.
-/
import Derived.Test.YtnahfogbemfngaaGreatDoorMK
import Derived.Test.YtnahfogbemfngaaGreatDoorSP
namespace Go.Proofs.YtnahfogbemfngaaGreatDoor
open Go.RowKit

def lbC : List UInt8 := [99, 108, 105, 101, 110, 116, 61]
def lbU : List UInt8 := [117, 115, 101, 114, 61]
def lbL : List UInt8 := [108, 101, 118, 101, 108, 61]
def lbA : List UInt8 := [97, 115, 107, 61]

structure Parts (t a b d ls : List UInt8) : Prop where
  eq : t = lbC ++ (a ++ 32 :: (lbU ++ (b ++ 32 :: (lbL ++ (d ++ 32 :: (lbA ++ ls))))))
  na : (32 : UInt8) ∉ a
  nb : (32 : UInt8) ∉ b
  nd : (32 : UInt8) ∉ d

theorem Parts.cuts {t a b d ls : List UInt8} (h : Parts t a b d ls) : ∃ r1 r2, cutF lbC t = (a, r1, true) ∧ cutF lbU r1 = (b, r2, true) ∧ cutF lbL r2 = (d, lbA ++ ls, true) := by
  rw [h.eq]
  exact ⟨_, _, cutF_hit _ _ _ h.na, cutF_hit _ _ _ h.nb, cutF_hit _ _ _ h.nd⟩

theorem Parts.of {t a b d r1 r2 r3 ls : List UInt8} (h1 : cutF lbC t = (a, r1, true)) (h2 : cutF lbU r1 = (b, r2, true)) (h3 : cutF lbL r2 = (d, r3, true)) (h4 : r3 = lbA ++ ls) : Parts t a b d ls := by
  obtain ⟨e1, n1⟩ := cutF_true h1
  obtain ⟨e2, n2⟩ := cutF_true h2
  obtain ⟨e3, n3⟩ := cutF_true h3
  exact ⟨by rw [e1, e2, e3, h4], n1, n2, n3⟩

theorem Parts.unique {t a b d ls a' b' d' ls' : List UInt8} (h : Parts t a b d ls) (h' : Parts t a' b' d' ls') : a = a' ∧ b = b' ∧ d = d' ∧ ls = ls' := by
  obtain ⟨r1, r2, e1, e2, e3⟩ := h.cuts
  obtain ⟨r1', r2', e1', e2', e3'⟩ := h'.cuts
  rw [e1] at e1'
  simp only [Prod.mk.injEq, and_true] at e1'
  obtain ⟨rfl, rfl⟩ := e1'
  rw [e2] at e2'
  simp only [Prod.mk.injEq, and_true] at e2'
  obtain ⟨rfl, rfl⟩ := e2'
  rw [e3] at e3'
  simp only [Prod.mk.injEq, and_true, List.append_cancel_left_eq] at e3'
  obtain ⟨rfl, rfl⟩ := e3'
  exact ⟨rfl, rfl, rfl, rfl⟩

theorem Parts.split {t a b d ls : List UInt8} (h : Parts t a b d ls) (hl : (32 : UInt8) ∉ ls) : splitC 32 t = [lbC ++ a, lbU ++ b, lbL ++ d, lbA ++ ls] := by
  have k : ∀ (x y : List UInt8), (32 : UInt8) ∉ x → (32 : UInt8) ∉ y → (32 : UInt8) ∉ x ++ y := fun x y hx hy e => by
    rcases List.mem_append.1 e with e | e
    · exact hx e
    · exact hy e
  rw [h.eq, ← List.append_assoc, splitC_hit 32 _ _ (k _ _ (by decide) h.na), ← List.append_assoc, splitC_hit 32 _ _ (k _ _ (by decide) h.nb), ← List.append_assoc, splitC_hit 32 _ _ (k _ _ (by decide) h.nd), splitC_clean 32 _ (k _ _ (by decide) hl)]

theorem Parts.of_split {t a b d ls : List UInt8} (h : splitC 32 t = [lbC ++ a, lbU ++ b, lbL ++ d, lbA ++ ls]) : Parts t a b d ls := by
  rcases splitC_cons h with ⟨h0, _⟩ | ⟨r1, e1, n1, h1⟩
  · cases h0
  rcases splitC_cons h1 with ⟨h0, _⟩ | ⟨r2, e2, n2, h2⟩
  · cases h0
  rcases splitC_cons h2 with ⟨h0, _⟩ | ⟨r3, e3, n3, h3⟩
  · cases h0
  rcases splitC_cons h3 with ⟨_, e4, n4⟩ | ⟨r4, e4, n4, h4⟩
  · refine ⟨?_, fun e => n1 (List.mem_append_right _ e), fun e => n2 (List.mem_append_right _ e), fun e => n3 (List.mem_append_right _ e)⟩
    rw [e1, e2, e3, e4]
    simp only [List.append_assoc]
  · exact absurd h4 (splitC_ne _ _)

/-- is it the text of a level? -/
def lvOK (d : List UInt8) : Bool := decide (1 ≤ d.length ∧ d.length ≤ 7) && d.all dgB && (decide (d.length = 1) || decide (d.head? ≠ some 48))

/-- is this the set of the list? -/
def LsOK (ls : List UInt8) (K : List ByteArray) : Prop := (ls = [] ∧ K = []) ∨ (ls ≠ [] ∧ IsMake ((splitC 44 ls).map ofL) K 0)

theorem LsOK.unique {ls : List UInt8} {K K' : List ByteArray} (h : LsOK ls K) (h' : LsOK ls K') : K = K' := by
  rcases h with ⟨h0, rfl⟩ | ⟨h0, h1⟩
  · rcases h' with ⟨_, rfl⟩ | ⟨h0', _⟩
    · rfl
    · exact absurd h0 h0'
  · rcases h' with ⟨h0', _⟩ | ⟨_, h1'⟩
    · exact absurd h0' h0
    · exact (h1.unique h1').1

theorem allB_mem {ss : List ByteArray} (h : allB ss = true) {x : ByteArray} (hx : x ∈ ss) : vnB x = true := by
  rw [allB, List.all_eq_true] at h
  exact h x hx

theorem LsOK.clean {ls : List UInt8} {K : List ByteArray} (h : LsOK ls K) : (32 : UInt8) ∉ ls := by
  rcases h with ⟨rfl, _⟩ | ⟨_, h⟩
  · simp
  · intro hm
    obtain ⟨p, hp, hx⟩ := splitC_mem (c := 44) (by decide) hm
    rcases h.cases with ⟨_, h1, _⟩ | ⟨_, _, ha, _⟩
    · omega
    · have := allB_mem ha (List.mem_map.2 ⟨p, hp, rfl⟩)
      rw [vnB, Bool.and_eq_true] at this
      have h2 := this.2
      rw [allNm, List.all_eq_true] at h2
      have := h2 32 (by simpa [ofL] using hx)
      revert this
      decide

theorem LsOK.len {ls : List UInt8} {K : List ByteArray} (h : LsOK ls K) : K.length ≤ 64 := by
  rcases h with ⟨_, rfl⟩ | ⟨_, h⟩
  · simp
  · exact h.len

theorem LsOK.sizes {ls : List UInt8} {K : List ByteArray} (h : LsOK ls K) (hs : ls.length ≤ 1048576) : ∀ j, j < K.length → (nth K j).size ≤ maxLen := by
  rcases h with ⟨_, rfl⟩ | ⟨_, h⟩
  · intro j hj; simp at hj
  · refine h.sizes fun j hj => ?_
    rw [nth_eq _ j hj, List.getElem_map]
    have hj' : j < (splitC 44 ls).length := by simpa using hj
    have := splitC_le (List.getElem_mem hj')
    have e : (ofL (splitC 44 ls)[j]).size = (splitC 44 ls)[j].length := by simp [ofL, ByteArray.size]
    rw [e]; unfold maxLen; omega

/-- the ask of a text -/
def AskOf (t : List UInt8) (cl us : ByteArray) (lv : Int) (K : List ByteArray) : Prop :=
  ∃ d ls, Parts t (toL cl) (toL us) d ls ∧ t.length ≤ 4000 ∧ vnB cl = true ∧ vnB us = true ∧ lvOK d = true ∧ lv = lvV d ∧ LsOK ls K

theorem AskOf.unique {t : List UInt8} {cl us cl' us' : ByteArray} {lv lv' : Int} {K K' : List ByteArray} (h : AskOf t cl us lv K) (h' : AskOf t cl' us' lv' K') : cl = cl' ∧ us = us' ∧ lv = lv' ∧ K = K' := by
  obtain ⟨d, ls, hp, _, _, _, _, rfl, hl⟩ := h
  obtain ⟨d', ls', hp', _, _, _, _, rfl, hl'⟩ := h'
  obtain ⟨e1, e2, rfl, rfl⟩ := hp.unique hp'
  exact ⟨toL_inj e1, toL_inj e2, rfl, hl.unique hl'⟩

def AskAns (t : List UInt8) (cl us : ByteArray) (lv : Int) (K : List ByteArray) (ok : Bool) : Prop :=
  (ok = true ∧ AskOf t cl us lv K) ∨ (ok = false ∧ cl = ⟨#[]⟩ ∧ us = ⟨#[]⟩ ∧ lv = 0 ∧ K = [] ∧ ∀ cl us lv K, ¬ AskOf t cl us lv K)

theorem AskAns.unique {t : List UInt8} {cl us cl' us' : ByteArray} {lv lv' : Int} {K K' : List ByteArray} {ok ok' : Bool} (h : AskAns t cl us lv K ok) (h' : AskAns t cl' us' lv' K' ok') : cl = cl' ∧ us = us' ∧ lv = lv' ∧ K = K' ∧ ok = ok' := by
  rcases h with ⟨rfl, h⟩ | ⟨rfl, rfl, rfl, rfl, rfl, h⟩
  · rcases h' with ⟨rfl, h'⟩ | ⟨_, _, _, _, _, h'⟩
    · obtain ⟨e1, e2, e3, e4⟩ := h.unique h'
      exact ⟨e1, e2, e3, e4, rfl⟩
    · exact absurd h (h' _ _ _ _)
  · rcases h' with ⟨rfl, h'⟩ | ⟨rfl, rfl, rfl, rfl, rfl, _⟩
    · exact absurd h' (h _ _ _ _)
    · exact ⟨rfl, rfl, rfl, rfl, rfl⟩

theorem AskAns.len {t : List UInt8} {cl us : ByteArray} {lv : Int} {K : List ByteArray} {ok : Bool} (h : AskAns t cl us lv K ok) : K.length ≤ 64 := by
  rcases h with ⟨_, _, _, _, _, _, _, _, _, h⟩ | ⟨_, _, _, _, rfl, _⟩
  · exact h.len
  · simp

theorem Parts.le {t a b d ls : List UInt8} (h : Parts t a b d ls) : a.length ≤ t.length ∧ b.length ≤ t.length ∧ d.length ≤ t.length ∧ ls.length ≤ t.length := by
  have := congrArg List.length h.eq
  simp at this
  omega

theorem AskAns.sizes {t : List UInt8} {cl us : ByteArray} {lv : Int} {K : List ByteArray} {ok : Bool} (h : AskAns t cl us lv K ok) : ∀ j, j < K.length → (nth K j).size ≤ maxLen := by
  rcases h with ⟨_, _, ls, hp, ht, _, _, _, _, h⟩ | ⟨_, _, _, _, rfl, _⟩
  · exact h.sizes (by have := hp.le; omega)
  · intro j hj; simp at hj

/-- nothing is said: at what the parts say -/
theorem AskAns.no {t : List UInt8} (h : ∀ cl us lv K, ¬ AskOf t cl us lv K) : AskAns t ⟨#[]⟩ ⟨#[]⟩ 0 [] false := .inr ⟨rfl, rfl, rfl, rfl, rfl, h⟩

theorem AskAns.yes {t : List UInt8} {cl us : ByteArray} {lv : Int} {K : List ByteArray} (h : AskOf t cl us lv K) : AskAns t cl us lv K true := .inl ⟨rfl, h⟩

/-- what the cuts of a text with an ask are -/
theorem AskOf.cuts {t : List UInt8} {cl us a b d r1 r2 r3 : ByteArray} {lv : Int} {K : List ByteArray} {o1 o2 o3 : Bool} (h : AskOf t cl us lv K)
    (h1 : cutF lbC t = (toL a, toL r1, o1)) (h2 : cutF lbU (toL r1) = (toL b, toL r2, o2)) (h3 : cutF lbL (toL r2) = (toL d, toL r3, o3)) :
    o1 = true ∧ o2 = true ∧ o3 = true ∧ ∃ ls, toL r3 = lbA ++ ls ∧ vnB a = true ∧ vnB b = true ∧ lvOK (toL d) = true ∧ LsOK ls K := by
  obtain ⟨d', ls, hp, _, v1, v2, hd, _, hl⟩ := h
  obtain ⟨q1, q2, e1, e2, e3⟩ := hp.cuts
  rw [e1] at h1
  simp only [Prod.mk.injEq] at h1
  obtain ⟨x1, rfl, rfl⟩ := h1
  rw [e2] at h2
  simp only [Prod.mk.injEq] at h2
  obtain ⟨x2, rfl, rfl⟩ := h2
  rw [e3] at h3
  simp only [Prod.mk.injEq] at h3
  obtain ⟨x3, x4, rfl⟩ := h3
  rw [toL_inj x1] at v1
  rw [toL_inj x2] at v2
  rw [x3] at hd
  exact ⟨rfl, rfl, rfl, ls, x4.symm, v1, v2, hd, hl⟩

theorem AskOf.of_cuts {t : List UInt8} {a b d r1 r2 r3 ls : ByteArray} {K : List ByteArray} (ht : t.length ≤ 4000)
    (h1 : cutF lbC t = (toL a, toL r1, true)) (h2 : cutF lbU (toL r1) = (toL b, toL r2, true)) (h3 : cutF lbL (toL r2) = (toL d, toL r3, true)) (h4 : toL r3 = lbA ++ toL ls)
    (v1 : vnB a = true) (v2 : vnB b = true) (hd : lvOK (toL d) = true) (hl : LsOK (toL ls) K) : AskOf t a b (lvV (toL d)) K :=
  ⟨toL d, toL ls, Parts.of h1 h2 h3 h4, ht, v1, v2, hd, rfl, hl⟩

theorem AskOf.parts {t : List UInt8} {cl us : ByteArray} {lv : Int} {K : List ByteArray} (h : AskOf t cl us lv K) :
    t.length ≤ 4000 ∧ ∃ d ls, splitC 32 t = [lbC ++ toL cl, lbU ++ toL us, lbL ++ d, lbA ++ ls] ∧ vnB cl = true ∧ vnB us = true ∧ lvOK d = true ∧ LsOK ls K := by
  obtain ⟨d', ls, hp, ht, v1, v2, hd, _, hl⟩ := h
  exact ⟨ht, d', ls, hp.split hl.clean, v1, v2, hd, hl⟩

theorem AskOf.of_parts {t : List UInt8} {a b d ls p0 p1 p2 p3 : ByteArray} {K : List ByteArray} (ht : t.length ≤ 4000)
    (hs : splitC 32 t = [toL p0, toL p1, toL p2, toL p3]) (h0 : toL p0 = lbC ++ toL a) (h1 : toL p1 = lbU ++ toL b) (h2 : toL p2 = lbL ++ toL d) (h3 : toL p3 = lbA ++ toL ls)
    (v1 : vnB a = true) (v2 : vnB b = true) (hd : lvOK (toL d) = true) (hl : LsOK (toL ls) K) : AskOf t a b (lvV (toL d)) K :=
  ⟨toL d, toL ls, Parts.of_split (by rw [hs, h0, h1, h2, h3]), ht, v1, v2, hd, rfl, hl⟩

end Go.Proofs.YtnahfogbemfngaaGreatDoor

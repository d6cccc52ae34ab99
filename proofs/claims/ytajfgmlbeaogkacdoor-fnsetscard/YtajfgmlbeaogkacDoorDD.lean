/-
  The draw of a pair of lists. Own work.
-/
import Derived.Test.YtajfgmlbeaogkacDoorDC
namespace Go.Proofs.YtajfgmlbeaogkacDoor
open Go.RowKit
set_option linter.unusedVariables false

theorem Strs.tail {w : World} {b off n c : Nat} {ss : List ByteArray} (h : Strs w (some ⟨b, off, none⟩) n c ss) (hn : 1 ≤ n) : Strs w (some ⟨b, off + 1, none⟩) (n - 1) (c - 1) ss.tail :=
  ⟨by have := h.len; simp; omega, by have := h.cap; omega, by have := h.small; omega, fun j hj => by
    have e : nth ss.tail j = nth ss (j + 1) := by
      have := h.len
      rw [nth_eq _ j (by simp; omega), nth_eq _ (j + 1) (by omega), List.getElem_tail]
    rw [e]; exact h.sizes (j + 1) (by omega), fun j hj => by
    have e : nth ss.tail j = nth ss (j + 1) := by
      have := h.len
      rw [nth_eq _ j (by simp; omega), nth_eq _ (j + 1) (by omega), List.getElem_tail]
    obtain ⟨b1, off1, ha, hlt, hc⟩ := h.cells (j + 1) (by omega)
    simp only [Option.some.injEq, Addr.mk.injEq, and_true] at ha
    obtain ⟨rfl, rfl⟩ := ha
    exact ⟨b, off + 1, rfl, hlt, by rw [e, show off + 1 + j = off + (j + 1) by omega]; exact hc⟩⟩

/-- what l1pair answers -/
def PairAns (w : World) (e : Ending) (w' : World) : Prop :=
  ∃ x cx K y cy L, e = .returned (.tuple #[.slice x K.length cx, .slice y L.length cy]) ∧ K.length ≤ 128 ∧ L.length ≤ 128 ∧ Names w' w.heap.size x K cx ∧ Names w' w.heap.size y L cy ∧ Below w.heap.size w w'

set_option maxRecDepth 100000 in
set_option maxHeartbeats 6400000 in
theorem l1pair_any (a : Option Addr) (n c : Nat) (zs : List Int) (w : World) (h : Bytes w a n c zs) (hn : n ≤ 1048576) :
    Calls Tryd.prog 44 #[.slice a n c] w fun e w' => PairAns w e w' := by
  have h0 : RdAt (w.alloc (.cells #[.slice a n c, .int .i64 0] 89)) w.heap.size a n c := ⟨0, Rd.new h hn⟩
  have B0 := (Below.refl w.heap.size w).alloc (Nat.le_refl _) (.cells #[.slice a n c, .int .i64 0] 89)
  have z0 : (w.alloc (.cells #[.slice a n c, .int .i64 0] 89)).heap.size = w.heap.size + 1 := by simp
  go_enter Tryd.func44, Tryd.ntmps44
  go_wp2_with fail
  generalize w.alloc (.cells #[.slice a n c, .int .i64 0] 89) = w0 at h0 B0 z0 ⊢
  refine (l1maybe_t _ a n c w0 h0).mono ?_
  rintro e w1 ⟨x1, c1, K1, rfl, l1, N1, h1, t1⟩
  go_wp2_with fail
  refine (l1maybe_t _ a n c w1 h1).mono ?_
  rintro e w2 ⟨x2, c2, K2, rfl, l2, N2, h2, t2⟩
  have N1 := N1.touch t2 (by omega)
  have T2 := t1.trans t2
  have hb12 := t1.size
  clear t1 t2 h0 h1
  go_wp2_with fail
  refine (next_t _ a n c w2 h2).mono ?_
  rintro e w3 ⟨y, rfl, y0, y1, h3, t3⟩
  have N1 := N1.touch t3 (by omega)
  have N2 := N2.touch t3 (by omega)
  have T3 := T2.trans t3
  have B3 := below_touch B0 T3 (Nat.le_refl _) B0.size
  have hb03 := T3.size
  clear T2 t3 h2 h3 T3 B0
  have S2 := N2.strs
  have n2 := owns_nil N2.own
  have Hs2 := hide N2.small
  have Hs1 := hide N1.small
  by_cases e3 : y % 3 = 0 ∧ 1 < K2.length
  · obtain ⟨e3, hl⟩ := e3
    have q3 : (y % 3 == 0) = true := beq_iff_eq.2 e3
    have il : (1 : Int) < (K2.length : Int) := by omega
    obtain ⟨b, off, ha, _, _⟩ := S2.at (by omega)
    subst ha
    have SA := S2.tail (by omega)
    have cp := S2.cap
    have Hs3 := hide (show ∀ s ∈ K2.tail, s.size ≤ 1000 from fun s hs => unhide Hs2 s (List.mem_of_mem_tail hs))
    have lt : K2.tail.length = K2.length - 1 := by simp
    clear e3
    go_wp2_with (at_builtin; refine append_strs rfl _ _ rfl w.heap.size _ _ _ rfl (World.ownsRow_nil _ _ _ _) _ _ _ K2.tail rfl SA (fun e => by cases e) ?c1 ?c2 ?_)
    case c1 => omega
    case c2 => exact B3.size
    intro v4 w4 hown4 hgrow4
    have B34 : Below w3.heap.size w3 w4 := (Below.refl w3.heap.size w3).grown hgrow4 (Nat.le_refl _) (fun k hk => by cases hk)
    obtain ⟨x4, c4, hf4⟩ := owns_form hown4
    rw [hf4] at hown4 ⊢
    clear hf4 hgrow4
    have S4 := S2.below B34 (Nat.le_refl _)
    have B4 := B3.trans (B34.mono B3.size)
    go_wp2_with (at_builtin; refine append_strs rfl _ _ rfl w.heap.size _ _ _ rfl (World.ownsRow_nil _ _ _ _) _ _ _ K2 rfl S4 n2 ?d1 ?d2 ?_)
    case d1 => omega
    case d2 => exact B4.size
    intro v5 w5 hown5 hgrow5
    have B45 : Below w4.heap.size w4 w5 := (Below.refl w4.heap.size w4).grown hgrow5 (Nat.le_refl _) (fun k hk => by cases hk)
    obtain ⟨x5, c5, hf5⟩ := owns_form hown5
    rw [hf5] at hown5 ⊢
    clear hf5 hgrow5
    have B5 := B4.trans (B45.mono B4.size)
    go_wp2_with fail
    go_ret2
    have NA : Names w4 w.heap.size x4 K2.tail c4 := ⟨by simpa using hown4, unhide Hs3⟩
    have NB : Names w5 w.heap.size x5 K2 c5 := ⟨by simpa using hown5, unhide Hs2⟩
    exact ⟨x4, c4, K2.tail, x5, c5, K2, by simp, by first | omega | (simp; omega), l2, NA.below B45 (Nat.le_refl _), NB, B5⟩
  · have S1 := N1.strs
    have n1 := owns_nil N1.own
    by_cases e3' : y % 3 = 0
    · have q3 : (y % 3 == 0) = true := beq_iff_eq.2 e3'
      have il : ¬ ((1 : Int) < (K2.length : Int)) := by omega
      clear e3 e3'
      go_wp2_with (at_builtin; refine append_strs rfl _ _ rfl w.heap.size _ _ _ rfl (World.ownsRow_nil _ _ _ _) _ _ _ K1 rfl S1 n1 ?c1 ?c2 ?_)
      case c1 => omega
      case c2 => exact B3.size
      intro v4 w4 hown4 hgrow4
      have B34 : Below w3.heap.size w3 w4 := (Below.refl w3.heap.size w3).grown hgrow4 (Nat.le_refl _) (fun k hk => by cases hk)
      obtain ⟨x4, c4, hf4⟩ := owns_form hown4
      rw [hf4] at hown4 ⊢
      clear hf4 hgrow4
      have S4 := S2.below B34 (Nat.le_refl _)
      have B4 := B3.trans (B34.mono B3.size)
      go_wp2_with (at_builtin; refine append_strs rfl _ _ rfl w.heap.size _ _ _ rfl (World.ownsRow_nil _ _ _ _) _ _ _ K2 rfl S4 n2 ?d1 ?d2 ?_)
      case d1 => omega
      case d2 => exact B4.size
      intro v5 w5 hown5 hgrow5
      have B45 : Below w4.heap.size w4 w5 := (Below.refl w4.heap.size w4).grown hgrow5 (Nat.le_refl _) (fun k hk => by cases hk)
      obtain ⟨x5, c5, hf5⟩ := owns_form hown5
      rw [hf5] at hown5 ⊢
      clear hf5 hgrow5
      have B5 := B4.trans (B45.mono B4.size)
      go_wp2_with fail
      go_ret2
      have NA : Names w4 w.heap.size x4 K1 c4 := ⟨by simpa using hown4, unhide Hs1⟩
      have NB : Names w5 w.heap.size x5 K2 c5 := ⟨by simpa using hown5, unhide Hs2⟩
      exact ⟨x4, c4, K1, x5, c5, K2, by simp, by first | omega | (simp; omega), l2, NA.below B45 (Nat.le_refl _), NB, B5⟩
    · have q3 : (y % 3 == 0) = false := beq_eq_false_iff_ne.2 e3'
      clear e3 e3'
      go_wp2_with (at_builtin; refine append_strs rfl _ _ rfl w.heap.size _ _ _ rfl (World.ownsRow_nil _ _ _ _) _ _ _ K1 rfl S1 n1 ?c1 ?c2 ?_)
      case c1 => omega
      case c2 => exact B3.size
      intro v4 w4 hown4 hgrow4
      have B34 : Below w3.heap.size w3 w4 := (Below.refl w3.heap.size w3).grown hgrow4 (Nat.le_refl _) (fun k hk => by cases hk)
      obtain ⟨x4, c4, hf4⟩ := owns_form hown4
      rw [hf4] at hown4 ⊢
      clear hf4 hgrow4
      have S4 := S2.below B34 (Nat.le_refl _)
      have B4 := B3.trans (B34.mono B3.size)
      go_wp2_with (at_builtin; refine append_strs rfl _ _ rfl w.heap.size _ _ _ rfl (World.ownsRow_nil _ _ _ _) _ _ _ K2 rfl S4 n2 ?d1 ?d2 ?_)
      case d1 => omega
      case d2 => exact B4.size
      intro v5 w5 hown5 hgrow5
      have B45 : Below w4.heap.size w4 w5 := (Below.refl w4.heap.size w4).grown hgrow5 (Nat.le_refl _) (fun k hk => by cases hk)
      obtain ⟨x5, c5, hf5⟩ := owns_form hown5
      rw [hf5] at hown5 ⊢
      clear hf5 hgrow5
      have B5 := B4.trans (B45.mono B4.size)
      go_wp2_with fail
      go_ret2
      have NA : Names w4 w.heap.size x4 K1 c4 := ⟨by simpa using hown4, unhide Hs1⟩
      have NB : Names w5 w.heap.size x5 K2 c5 := ⟨by simpa using hown5, unhide Hs2⟩
      exact ⟨x4, c4, K1, x5, c5, K2, by simp, by first | omega | (simp; omega), l2, NA.below B45 (Nat.le_refl _), NB, B5⟩

theorem DrawUnion_any (a : Option Addr) (n c : Nat) (zs : List Int) (w : World) (h : Bytes w a n c zs) (hn : n ≤ 1048576) :
    Calls Tryd.prog 17 #[.slice a n c] w fun e w' => PairAns w e w' := by
  go_enter Tryd.func17, Tryd.ntmps17
  go_wp2_with fail
  refine (l1pair_any a n c zs w h hn).mono ?_
  rintro e w1 ⟨x, cx, K, y, cy, L, rfl, l1, l2, N1, N2, B⟩
  go_wp2_with fail
  go_ret2
  exact ⟨x, cx, K, y, cy, L, rfl, l1, l2, N1, N2, B⟩

end Go.Proofs.YtajfgmlbeaogkacDoor

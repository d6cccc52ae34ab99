/-
  The program's reader. Own work.
-/
import Derived.Test.YtmkoidbpkhiohaaKB
import Derived.Test.YtmkoidbpkhiohaaOwn0
namespace Go.Proofs.Ytmkoidbpkhiohaa
open Go.RowKit
set_option linter.unusedVariables false

/-- bytes in memory, ahead of the block B -/
structure Bys (w : World) (B : Nat) (a : Option Addr) (n c : Nat) (L : List Int) : Prop where
  len : L.length = n
  cap : n ≤ c
  small : c ≤ 1048576
  ok : okB L
  cells : ∀ j, (h : j < L.length) → ∃ b off, a = some ⟨b, off, none⟩ ∧ b < B ∧ b < w.heap.size ∧ w.cell? ⟨b, off + j, none⟩ = some (.int .u8 L[j])

theorem Bys.touch {w w' : World} {B lo hi n c : Nat} {a : Option Addr} {L : List Int} (h : Bys w B a n c L) (T : Touch lo hi w w') (hB : B ≤ lo) : Bys w' B a n c L :=
  ⟨h.len, h.cap, h.small, h.ok, fun j hj => by
    obtain ⟨b, off, ha, hlt, hw, hc⟩ := h.cells j hj
    exact ⟨b, off, ha, hlt, Nat.lt_of_lt_of_le hw T.size, (World.cell?_of_block (T.block b hw (.inl (by omega)))).trans hc⟩⟩

theorem Bys.nil (w : World) (B : Nat) : Bys w B none 0 0 [] := ⟨rfl, Nat.le_refl _, Nat.zero_le _, (fun x hx => by cases hx), fun j hj => absurd hj (by simp)⟩

theorem Bys.take {w : World} {B n c : Nat} {a : Option Addr} {L : List Int} (h : Bys w B a n c L) (k : Nat) (hk : k ≤ n) : Bys w B a k c (L.take k) :=
  ⟨by rw [List.length_take, h.len]; omega, by have := h.cap; omega, h.small, h.ok.take k, fun j hj => by
    have hl := h.len
    have hj' : j < L.length := by rw [List.length_take] at hj; omega
    obtain ⟨b, off, ha, h1, h2, hc⟩ := h.cells j hj'
    exact ⟨b, off, ha, h1, h2, by rw [hc, List.getElem_take]⟩⟩

theorem Bys.drop {w : World} {B n c : Nat} {a : Option Addr} {L : List Int} (h : Bys w B a n c L) (k : Nat) (hk : k ≤ n) : Bys w B (a.map fun x => x.add k) (n - k) (c - k) (L.drop k) :=
  ⟨by rw [List.length_drop, h.len], by have := h.cap; omega, by have := h.small; omega, h.ok.drop k, fun j hj => by
    have hl := h.len
    rw [List.length_drop] at hj
    obtain ⟨b, off, ha, h1, h2, hc⟩ := h.cells (k + j) (by omega)
    subst ha
    refine ⟨b, off + k, ?_, h1, h2, ?_⟩
    · by_cases e : k = 0 <;> simp [Addr.add, e]
    · rw [List.getElem_drop, ← hc, Nat.add_assoc]⟩

theorem Bys.dropAll {w : World} {B n c : Nat} {a : Option Addr} {L : List Int} (h : Bys w B a n c L) (k : Nat) (hk : n ≤ k) : Bys w B a (n - k) 0 (L.drop k) := by
  have hl := h.len
  have e : L.drop k = [] := List.drop_eq_nil_of_le (by omega)
  rw [e]
  exact ⟨by simp; omega, by omega, Nat.zero_le _, (fun x hx => by cases hx), fun j hj => absurd hj (by simp)⟩

structure IRd (w : World) (g : Nat) (h0 h1 h2 : Int) (a : Option Addr) (n c : Nat) (s : Rs) : Prop where
  row : Row w g #[.int .i64 h0, .int .i64 h1, .int .i64 h2, .slice a n c, .bool s.2] 50
  bys : Bys w g a n c s.1

theorem row5 {w : World} {b : Nat} {v0 v1 v2 v3 v4 : Value} {t : TypeId} (R : Row w b #[v0, v1, v2, v3, v4] t) : w.cell? ⟨b, 0, none⟩ = some v0 ∧ w.cell? ⟨b, 1, none⟩ = some v1 ∧ w.cell? ⟨b, 2, none⟩ = some v2 ∧ w.cell? ⟨b, 3, none⟩ = some v3 ∧ w.cell? ⟨b, 4, none⟩ = some v4 :=
  ⟨by simpa using R.cell 0, by simpa using R.cell 1, by simpa using R.cell 2, by simpa using R.cell 3, by simpa using R.cell 4⟩

/-- what the reader is left as -/
def IRs (w : World) (g : Nat) (h0 h1 h2 : Int) (s : Rs) : Prop := ∃ a n c, IRd w g h0 h1 h2 a n c s

def TkAns (w : World) (g : Nat) (h0 h1 h2 : Int) (r : List Int × Rs) (e : Ending) (w' : World) : Prop := ∃ a n c, e = .returned (.slice a n c) ∧ Bys w' g a n c r.1 ∧ IRs w' g h0 h1 h2 r.2 ∧ Touch g (g + 1) w w'

set_option maxHeartbeats 1600000 in
theorem take_any (g : Nat) (h0 h1 h2 : Int) (s : Rs) (k : Nat) (w : World) (h : IRs w g h0 h1 h2 s) (hk : k ≤ 65535) :
    Calls Try.prog 27 #[.pointer (some ⟨g, 0, none⟩), .int .i64 k] w fun e w' => TkAns w g h0 h1 h2 (takeI k s) e w' := by
  obtain ⟨a, n, c, R, hb⟩ := h
  obtain ⟨L, bk⟩ := s
  have hl := hb.len
  simp only at hl R hb
  have hc1 := hb.cap
  have hc2 := hb.small
  obtain ⟨q0, q1, q2, q3, q4⟩ := row5 R
  have qf := fun j => R.frozen j
  by_cases hlt : n < k
  · have ilt : (n : Int) < (k : Int) := by omega
    have HX := hide (show takeI k (L, bk) = ([], L, true) by unfold takeI; rw [if_pos (by show L.length < k; omega)])
    have Hl := hide hl
    clear hl
    go_enter Try.func27, Try.ntmps27
    go_wp2
    go_ret
    rw [unhide HX]
    have T1 := Touch.setCell (lo := g) (hi := g + 1) w ⟨g, 4, none⟩ (.bool true) (Nat.le_refl _) (Nat.lt_succ_self _)
    exact ⟨_, _, _, rfl, Bys.nil _ _, ⟨a, n, c, R.set 4 (.bool true), hb.touch T1 (Nat.le_refl _)⟩, T1⟩
  · have ilt : ¬ ((n : Int) < (k : Int)) := by omega
    have HX := hide (show takeI k (L, bk) = (L.take k, L.drop k, bk) by unfold takeI; rw [if_neg (by show ¬ L.length < k; omega)])
    have Hl := hide hl
    clear hl
    go_enter Try.func27, Try.ntmps27
    go_wp2
    · have hb' : Bys w g a n k L := by
        have e : c = k := by assumption
        rw [← e]; exact hb
      go_ret
      rw [unhide HX]
      have T1 := Touch.setCell (lo := g) (hi := g + 1) w ⟨g, 3, none⟩ (.slice a (n - k) 0) (Nat.le_refl _) (Nat.lt_succ_self _)
      exact ⟨_, _, _, rfl, (hb'.take k (by omega)).touch T1 (Nat.le_refl _), ⟨a, n - k, 0, R.set 3 (.slice a (n - k) 0), (hb'.dropAll k (by omega)).touch T1 (Nat.le_refl _)⟩, T1⟩
    · go_ret
      rw [unhide HX]
      have T1 := Touch.setCell (lo := g) (hi := g + 1) w ⟨g, 3, none⟩ (.slice (a.map fun x => x.add k) (n - k) (c - k)) (Nat.le_refl _) (Nat.lt_succ_self _)
      exact ⟨_, _, _, rfl, (hb.take k (by omega)).touch T1 (Nat.le_refl _), ⟨_, n - k, c - k, R.set 3 (.slice (a.map fun x => x.add k) (n - k) (c - k)), (hb.drop k (by omega)).touch T1 (Nat.le_refl _)⟩, T1⟩

theorem or_byte (v x : Int) (h0 : 0 ≤ x) (h1 : x < 256) : bits .or .i64 (wrap64 (v * 256)) x = wrap64 (v * 256 + x) := by
  have hx : (BitVec.ofInt 64 x).toNat = x.toNat := by rw [BitVec.toNat_ofInt]; omega
  obtain ⟨q, hq⟩ := w64_mod (v * 256)
  have hv : (BitVec.ofInt 64 (wrap64 (v * 256))).toNat = 2 ^ 8 * ((v % 72057594037927936).toNat) := by
    rw [BitVec.toNat_ofInt, hq]
    omega
  show IntKind.i64.wrap ((BitVec.ofInt 64 (wrap64 (v * 256)) ||| BitVec.ofInt 64 x).toNat : Int) = _
  rw [BitVec.toNat_or, hv, hx, ← Nat.two_pow_add_eq_or_of_lt (by omega)]
  have hw : ∀ y : Int, IntKind.i64.wrap y = wrap64 y := fun y => by simp [IntKind.wrap, IntKind.bits, IntKind.signed, wrap64]; omega
  rw [hw]
  unfold wrap64
  omega

theorem numF_take_succ (L : List Int) (k : Nat) (h : k < L.length) : numF (L.take (k + 1)) = wrap64 (numF (L.take k) * 256 + L[k]) := by
  rw [List.take_succ_eq_append_getElem h, numF_snoc]

/-- a number and the reader behind it -/
def NmAns (w : World) (g : Nat) (h0 h1 h2 : Int) (r : Int × Rs) (e : Ending) (w' : World) : Prop := e = .returned (.int .i64 r.1) ∧ IRs w' g h0 h1 h2 r.2 ∧ Touch g (g + 1) w w'

set_option maxHeartbeats 1600000 in
theorem number_any' (g : Nat) (h0 h1 h2 : Int) (s : Rs) (k : Nat) (w : World) (h : IRs w g h0 h1 h2 s) (hk : k ≤ 65535) :
    Calls Try.prog 30 #[.pointer (some ⟨g, 0, none⟩), .int .i64 k] w fun e w' => NmAns w g h0 h1 h2 (numI k s) e w' := by
  have HT := hide (take_any g h0 h1 h2 s k w h hk)
  have HX := hide (show numI k s = (numF (takeI k s).1, (takeI k s).2) from rfl)
  generalize takeI k s = r at HT HX
  obtain ⟨L, s2⟩ := r
  clear h
  go_enter Try.func30, Try.ntmps30
  go_wp2_with (go_at_call 27; refine (unhide HT).mono ?_; rintro e w1 ⟨a, n, c, rfl, hb, hR, hT⟩)
  have hl := hb.len
  have hn1 := hb.cap
  have hn2 := hb.small
  have Hl := hide hl
  clear hl
  go_loopw [5, 12] (fun v i wr => ∃ j : Nat, j ≤ n ∧ i = .int .i64 j ∧ v = .int .i64 (numF (L.take j)) ∧ wr = w1) (fun _ i _ => n - (intOf i).toNat)
  case atStart => exact ⟨0, Nat.zero_le _, rfl, rfl, rfl⟩
  case round =>
    obtain ⟨j, hj, rfl, rfl, rfl⟩ := hrel
    by_cases hlt : j < n
    · have hjl : j < L.length := by rw [unhide Hl]; exact hlt
      obtain ⟨b, off, rfl, _, _, hc⟩ := hb.cells j hjl
      have hx := hb.ok L[j] (List.getElem_mem hjl)
      have ilt : (j : Int) < (n : Int) := by omega
      have HS := hide (numF_take_succ L j hjl)
      have hor := or_byte (numF (L.take j)) L[j] hx.1 hx.2
      generalize L[j] = x at hc hx HS hor
      generalize numF (L.take j) = v at HS hor
      have Hlt := hide hlt
      have hx0 := hx.1
      have hx1 := hx.2
      go_wp2_with fail
      go_roundw
      case rel => exact ⟨j + 1, unhide Hlt, by go_num, by rw [unhide HS, ← hor], (by first | rfl | trivial)⟩
      case measure => have := unhide Hlt; simp [intOf]; omega
    · have e : j = n := by omega
      subst e
      have HS := hide (show L.take j = L from List.take_of_length_le (by rw [unhide Hl]; exact Nat.le_refl _))
      rw [unhide HS]
      go_wp2_with fail
      go_ret
      rw [unhide HX]
      exact ⟨rfl, hR, hT⟩

end Go.Proofs.Ytmkoidbpkhiohaa

/-
  The program's writer of bytes. Own work.
-/
import Derived.Test.YtnbeodlgmdenlaaEA
import Derived.Test.YtnbeodlgmdenlaaPickP
import Derived.Deep.AppendLies
import Derived.Deep.RegionHeld3
import Derived.Deep.RegionLaw
import Derived.OwnWalk
namespace Go.Proofs.Ytnbeodlgmdenlaa
open Go.RowKit
set_option linter.unusedVariables false

theorem infoB : (Try.prog.info? 5).map (fun i => (i.zero, i.size, i.bytes)) = some (some (.int .u8 0), 1, 1) := by kernel_rfl

/-- the writer: its header, and the bytes so far -/
structure Wr (w : World) (g : Nat) (h0 h1 h2 : Int) (v : Value) (O : List Int) : Prop where
  row : Row w g #[.int .i64 h0, .int .i64 h1, .int .i64 h2, v] 57
  own : w.ownsRow (g + 1) 5 1 v O.length (bytesV O)

/-- all that was is as it was, but for the writer and its row; the row lies where it lay, or in a new block -/
def WK (g : Nat) (w : World) (v : Value) (w' : World) (v' : Value) : Prop := (∀ k, k < w.heap.size → k ≠ g → some k ≠ v.ownBlock → w'.heap[k]? = w.heap[k]?) ∧ (∀ q, v'.ownBlock = some q → v.ownBlock = some q ∨ w.heap.size ≤ q) ∧ w.heap.size ≤ w'.heap.size

theorem WK.refl (g : Nat) (w : World) (v : Value) : WK g w v w v := ⟨fun _ _ _ _ => rfl, fun q h => .inl h, Nat.le_refl _⟩

theorem WK.trans {g : Nat} {w w1 w2 : World} {v v1 v2 : Value} (h : WK g w v w1 v1) (k : WK g w1 v1 w2 v2) : WK g w v w2 v2 :=
  ⟨fun j hj hg hne => (k.1 j (Nat.lt_of_lt_of_le hj h.2.2) hg (fun e => by
    rcases h.2.1 j e.symm with e' | e'
    · exact hne e'.symm
    · omega)).trans (h.1 j hj hg hne), fun q hq => by
    rcases k.2.1 q hq with e | e
    · exact h.2.1 q e
    · exact .inr (Nat.le_trans h.2.2 e), Nat.le_trans h.2.2 k.2.2⟩

theorem WK.alloc {g : Nat} {w w' : World} {v v' : Value} (h : WK g w v w' v') (o : Obj) : WK g w v (w'.alloc o) v' :=
  ⟨fun k hk hg hne => (Below.heap_alloc w' o k (Nat.lt_of_lt_of_le hk h.2.2)).trans (h.1 k hk hg hne), h.2.1, by simp; have := h.2.2; omega⟩

/-- a block beside the writer -/
theorem Row.wk {g : Nat} {w w' : World} {v v' : Value} {b : Nat} {cs : Array Value} {t : TypeId} (R : Row w b cs t) (h : WK g w v w' v') (hg : b ≠ g) (hne : v.ownBlock ≠ some b) : Row w' b cs t := ⟨(h.1 b R.lt hg (fun e => hne e.symm)).trans R.out⟩

theorem wk_append {g : Nat} {w w' : World} {o : Obj} {v : Value} {b n c : Nat} (hg : (w.alloc o).grownBy w' v.ownBlock) (ha : v.ownBlock = some b ∨ b = w.heap.size + 1) (u : Value) : WK g w v (w'.setCell ⟨g, 3, none⟩ u) (.slice (some ⟨b, 0, none⟩) n c) :=
  ⟨fun k hk hkg hne => (heap_setCell_other w' ⟨g, 3, none⟩ k u hkg).trans ((hg.block k (by simp; omega) hne).trans (Below.heap_alloc w o k hk)), fun q hq => by
    have : b = q := by simpa [Value.ownBlock] using hq
    subst this
    rcases ha with e | e
    · exact .inl e
    · right; omega, by have := hg.size; simp at this ⊢; omega⟩

theorem wrap_u8_eq (y : Int) : IntKind.u8.wrap y = y % 256 := by simp [IntKind.wrap, IntKind.bits, IntKind.signed]

/-- what a step of the writer leaves -/
def WrAns (w : World) (g : Nat) (h0 h1 h2 : Int) (v : Value) (R : List Int) (e : Ending) (w' : World) : Prop := e = .returned (.tuple #[]) ∧ ∃ v', Wr w' g h0 h1 h2 v' R ∧ WK g w v w' v' ∧ Below g w w'

theorem bytes_form {w : World} {base e n : Nat} {v : Value} {xs : List Value} (h : w.ownsRow base e 1 v n xs) : ∃ x c, v = .slice x n c := owns_form h

theorem bytes_snoc {w : World} {B : Nat} {v : Value} {O : List Int} {x : Int} (h : w.ownsRow B 5 1 v (O.length + 1) (bytesV O ++ [.int .u8 x])) : w.ownsRow B 5 1 v (O ++ [x]).length (bytesV (O ++ [x])) := by
  rw [List.length_append, List.length_singleton, bytesV, List.map_append]
  exact h

theorem bytes_far {w : World} {g : Nat} {v u : Value} {n : Nat} {xs : List Value} (h : w.ownsRow (g + 1) 5 1 v n xs) : (w.setCell ⟨g, 3, none⟩ u).ownsRow (g + 1) 5 1 v n xs := by
  refine ⟨h.1, ?_⟩
  rcases h.2 with hn | ⟨q, cap, cur, hv, h1, h2, h3⟩
  · exact .inl hn
  · exact .inr ⟨q, cap, cur, hv, h1, (heap_setCell_other w ⟨g, 3, none⟩ q u (by show q ≠ g; omega)).trans h2, h3⟩

theorem one_byte (w : World) (v : Value) (t : TypeId) (b : Nat) (hb : b = w.heap.size) : ∀ j u, ([v] : List Value)[j]? = some u → (w.alloc (.cells #[v] t)).cell? ((⟨b, 0, none⟩ : Addr).add j) = some u := fun j u h => by
  subst hb
  have hj : j = 0 := by
    have := (List.getElem?_eq_some_iff.1 h).1
    simp at this
    exact this
  subst hj
  rw [← h]
  simp [Addr.add]

set_option maxRecDepth 100000 in
set_option maxHeartbeats 3200000 in
theorem number_any (g : Nat) (h0 h1 h2 : Int) (v : Value) (O : List Int) (num : Int) (width : Nat) (w : World) (hw : Wr w g h0 h1 h2 v O) (hwd : width ≤ 8) (hO : O.length ≤ 100000000) :
    Calls Try.prog 37 #[.pointer (some ⟨g, 0, none⟩), .int .i64 num, .int .i64 width] w fun e w' => WrAns w g h0 h1 h2 v (O ++ beB num width) e w' := by
  obtain ⟨i, hi, hz0, hz1, hz2⟩ := info_parts infoB
  go_enter Try.func37, Try.ntmps37
  go_wp2_with fail
  go_loopw [6] (fun i wr => ∃ (k : Nat) (v' : Value) (O' : List Int), k ≤ width ∧ i = .int .i64 ((k : Int) - 1) ∧ Hid (O' ++ beB num k = O ++ beB num width) ∧ O'.length + k = O.length + width ∧ Wr wr g h0 h1 h2 v' O' ∧ WK g w v wr v' ∧ Below g w wr) (fun i _ => (intOf i + 1).toNat)
  case atStart => exact ⟨width, v, O, Nat.le_refl _, rfl, hide rfl, rfl, hw, WK.refl _ _ _, Below.refl _ _⟩
  case round =>
    obtain ⟨k, v', O', hk, rfl, HR, hl, W1, K1, B1⟩ := hrel
    cases k with
    | zero =>
      have HX := hide (show O' = O ++ beB num width by have := unhide HR; rw [beB, List.append_nil] at this; exact this)
      go_wp2_with fail
      exact bodyPost_end (by simp [results, Try.results37, go_sem]) rfl ⟨rfl, v', by rw [← unhide HX]; exact W1, K1, B1⟩
    | succ k =>
      have i0 : (0 : Int) ≤ ((k + 1 : Nat) : Int) - 1 := by omega
      have ik : (((k + 1 : Nat) : Int) - 1) = (k : Int) := by omega
      rw [ik]
      have ik7 : (k : Int) ≤ 7 := by omega
      have ik0 : (0 : Int) ≤ (k : Int) := by omega
      have sh : ∀ w, (Op.shift .shr .i64 num .i64 (IntKind.i64.wrap (8 * (k : Int)))).run Try.prog w = .ok (.int .i64 (num / 2 ^ (8 * k))) w := fun w => by
        rw [IntKind.wrap_i64, show (8 * (k : Int) + 9223372036854775808) % 18446744073709551616 - 9223372036854775808 = 8 * (k : Int) by omega, shift_shr .i64 .i64 num (8 * (k : Int)) (by omega) (by show 8 * (k : Int) ≤ 64; omega), show (8 * (k : Int)).toNat = 8 * k by omega]
        rfl
      have cv : IntKind.u8.wrap (num / 2 ^ (8 * k)) = byteAt num k := wrap_u8_eq _
      have HB := hide (show (O' ++ [byteAt num k]) ++ beB num k = O ++ beB num width by have := unhide HR; rw [beB] at this; rw [← this, List.append_assoc]; rfl)
      obtain ⟨x, c, rfl⟩ := bytes_form W1.own
      have q3 := W1.row.cell 3
      have f3 := W1.row.frozen 3
      simp only [List.getElem?_toArray, List.getElem?_cons_succ, List.getElem?_cons_zero] at q3
      clear HR
      go_wp2_with fail
      have qd : wr.drew.cell? ⟨g, 3, none⟩ = some (.slice x O'.length c) ∧ wr.drew.frozen? ⟨g, 3, none⟩ = false := ⟨q3, f3⟩
      have hgl := W1.row.lt
      have hgo : ∀ q, (Value.slice x O'.length c).ownBlock = some q → g + 1 ≤ q := fun q hq => (W1.own.lt q hq).1
      have f4 : (wr.alloc (.cells #[.int .u8 (byteAt num k)] 5)).drew.frozen? ⟨g, 3, none⟩ = false := (W1.row.alloc _).frozen 3
      have ow : (wr.alloc (.cells #[.int .u8 (byteAt num k)] 5)).drew.ownsRow (g + 1) 5 1 (.slice x O'.length c) O'.length (bytesV O') := (W1.own.alloc _).drew
      go_region_law (refine step_append_lies _ rfl _ _ 27 rfl (g + 1) 5 i (.int .u8 0) 1 1 Try.underlying27 hi hz0 hz1 hz2 rfl (by decide) (.slice x O'.length c) O'.length (bytesV O') rfl ow ⟨wr.heap.size, 0, none⟩ 1 1 [.int .u8 (byteAt num k)] rfl rfl (one_byte wr _ _ _ rfl) (by intro u hu; simp at hu; subst hu; rfl) (by decide) (by unfold maxLen; omega) (by omega) (by simp; omega) _ rfl ?_; intro b1 c1 w1 O1 hgrow hat hlt; have R1 : Row w1 g #[.int .i64 h0, .int .i64 h1, .int .i64 h2, .slice x O'.length c] 57 := ⟨(hgrow.block g (by simp; omega) (fun e => by have := hgo g e.symm; omega)).trans (W1.row.alloc (.cells #[.int .u8 (byteAt num k)] 5)).out⟩; have s1 : w1.cell? ⟨g, 3, none⟩ = some (.slice x O'.length c) ∧ w1.frozen? ⟨g, 3, none⟩ = false := ⟨R1.cell 3, R1.frozen 3⟩; obtain ⟨t1, t2⟩ := s1)
      all_goals
        have hg2 : (wr.alloc (.cells #[.int .u8 (byteAt num k)] 5)).grownBy w1 (Value.slice x O'.length c).ownBlock := ⟨hgrow.os, hgrow.tape, hgrow.output, hgrow.size, hgrow.block⟩
        have K2 := K1.trans (wk_append (n := O'.length + 1) (c := c1) hg2 (hat.imp id (fun e => by rw [e]; show (wr.alloc _).heap.size = _; simp)) (.slice (some ⟨b1, 0, none⟩) (O'.length + 1) c1))
        have B2 := ((B1.alloc (by omega) (.cells #[.int .u8 (byteAt num k)] 5)).grown hg2 (by simp; omega) (fun q hq => by have := hgo q hq; omega)).setCell (p := ⟨g, 3, none⟩) (Nat.le_refl _) (.slice (some ⟨b1, 0, none⟩) (O'.length + 1) c1)
        have W2 : Wr (w1.setCell ⟨g, 3, none⟩ (.slice (some ⟨b1, 0, none⟩) (O'.length + 1) c1)) g h0 h1 h2 (.slice (some ⟨b1, 0, none⟩) (O'.length + 1) c1) (O' ++ [byteAt num k]) := ⟨R1.set 3 _, bytes_far (bytes_snoc O1)⟩
        clear hgrow hg2 hat O1 ow
        go_wp2_with fail
        go_roundw
        case rel => exact ⟨k, _, O' ++ [byteAt num k], by omega, by go_num, HB, by rw [List.length_append, List.length_singleton]; omega, W2, K2, B2⟩
        case measure => simp [intOf]

end Go.Proofs.Ytnbeodlgmdenlaa

/-
  The model's writer of bytes. Own work.
-/
import Derived.Test.YtmkoidbpkhiohaaES0
namespace Go.Proofs.Ytmkoidbpkhiohaa
open Go.RowKit Go.Lib
set_option linter.unusedVariables false

/-- all that was is as it was, but for the row; the row lies where it lay, or in a new block -/
def Kp (w : World) (v : Value) (w' : World) (v' : Value) : Prop := (∀ k, k < w.heap.size → some k ≠ v.ownBlock → w'.heap[k]? = w.heap[k]?) ∧ (∀ q, v'.ownBlock = some q → v.ownBlock = some q ∨ w.heap.size ≤ q) ∧ w.heap.size ≤ w'.heap.size

theorem Kp.refl (w : World) (v : Value) : Kp w v w v := ⟨fun _ _ _ => rfl, fun q h => .inl h, Nat.le_refl _⟩

theorem Kp.trans {w w1 w2 : World} {v v1 v2 : Value} (h : Kp w v w1 v1) (k : Kp w1 v1 w2 v2) : Kp w v w2 v2 :=
  ⟨fun j hj hne => (k.1 j (Nat.lt_of_lt_of_le hj h.2.2) (fun e => by
    rcases h.2.1 j e.symm with e' | e'
    · exact hne e'.symm
    · omega)).trans (h.1 j hj hne), fun q hq => by
    rcases k.2.1 q hq with e | e
    · exact h.2.1 q e
    · exact .inr (Nat.le_trans h.2.2 e), Nat.le_trans h.2.2 k.2.2⟩

theorem Kp.from {w w' : World} {v v' : Value} {o : Obj} (h : Kp (w.alloc o) v w' v') : Kp w v w' v' :=
  ⟨fun k hk hne => (h.1 k (by simp; omega) hne).trans (Below.heap_alloc w o k hk), fun q hq => by
    rcases h.2.1 q hq with e | e
    · exact .inl e
    · right; simp at e; omega, by have := h.2.2; simp at this; omega⟩

theorem Row.kp {w w' : World} {v v' : Value} {b : Nat} {cs : Array Value} {t : TypeId} (R : Row w b cs t) (h : Kp w v w' v') (hne : v.ownBlock ≠ some b) : Row w' b cs t := ⟨(h.1 b R.lt (fun e => hne e.symm)).trans R.out⟩

theorem kp_append {w w' : World} {o : Obj} {v : Value} {b n c : Nat} (hg : (w.alloc o).grownBy w' v.ownBlock) (ha : v.ownBlock = some b ∨ b = w.heap.size + 1) : Kp w v w' (.slice (some ⟨b, 0, none⟩) n c) :=
  ⟨fun k hk hne => (hg.block k (by simp; omega) hne).trans (Below.heap_alloc w o k hk), fun q hq => by
    have : b = q := by simpa [Value.ownBlock] using hq
    subst this
    rcases ha with e | e
    · exact .inl e
    · right; omega, by have := hg.size; simp at this; omega⟩

theorem kp_str {w w' : World} {v v' : Value} (hg : w.grownBy w' v.ownBlock) (ha : ∀ q, v'.ownBlock = some q → v.ownBlock = some q ∨ q = w.heap.size) : Kp w v w' v' :=
  ⟨fun k hk hne => hg.block k hk hne, fun q hq => by
    rcases ha q hq with e | e
    · exact .inl e
    · right; omega, hg.size⟩

/-- what a step of the model's writer leaves -/
def BtAns (B : Nat) (w : World) (v : Value) (R : List Int) (e : Ending) (w' : World) : Prop := ∃ v', e = .returned v' ∧ w'.ownsRow B 5 1 v' R.length (bytesV R) ∧ Kp w v w' v' ∧ Below B w w'

theorem bytes_two {w : World} {B : Nat} {v : Value} {O : List Int} {x y : Int} (h : w.ownsRow B 5 1 v (O.length + 2) (bytesV O ++ [.int .u8 x, .int .u8 y])) : w.ownsRow B 5 1 v (O ++ [x, y]).length (bytesV (O ++ [x, y])) := by
  rw [List.length_append, bytesV, List.map_append]
  exact h

theorem beB1 (n : Int) : beB n 1 = [n % 256] := by simp [beB, byteAt]
theorem beB2 (n : Int) : beB n 2 = [n / 256 % 256, n % 256] := by simp [beB, byteAt]

set_option maxHeartbeats 1600000 in
theorem l5two_any (B : Nat) (v : Value) (O : List Int) (n : Int) (w : World) (ow : w.ownsRow B 5 1 v O.length (bytesV O)) (hO : O.length ≤ 100000000) (hB : B ≤ w.heap.size) :
    Calls Try.prog 25 #[v, .int .i64 n] w fun e w' => BtAns B w v (O ++ beB n 2) e w' := by
  obtain ⟨i, hi, hz0, hz1, hz2⟩ := info_parts infoB
  obtain ⟨x, c, rfl⟩ := bytes_form ow
  go_enter Try.func25, Try.ntmps25
  go_wp2_with (at_builtin; refine wpList_append_lies _ rfl _ _ 22 rfl B 5 i (.int .u8 0) 1 1 Try.underlying22 hi hz0 hz1 hz2 rfl (by decide) (.slice x O.length c) O.length (bytesV O) rfl (World.ownsRow.alloc ow _) ⟨w.heap.size, 0, none⟩ 2 2 [.int .u8 (n / 256 % 256), .int .u8 (n % 256)] rfl rfl ?a1 ?a2 (by decide) ?a3 ?a4 ?a5 _ rfl ?_)
  case a1 => exact World.news_of_block (heap_alloc_new w _)
  case a2 => intro u hu; simp at hu; rcases hu with rfl | rfl <;> rfl
  case a3 => unfold maxLen; omega
  case a4 => omega
  case a5 => simp; omega
  intro g cap w3 O3 hgrow hat hgl
  have K3 := kp_append (n := O.length + 2) (c := cap) hgrow hat
  have B3 := ((Below.refl B w).alloc hB (.cells #[.int .u8 (n / 256 % 256), .int .u8 (n % 256)] 5)).grown hgrow (by simp; omega) (fun q hq => (ow.lt q hq).1)
  have O4 := bytes_two O3
  rw [← beB2] at O4
  clear hgrow hat
  go_wp2_with fail
  go_ret
  exact ⟨_, rfl, O4, K3, B3⟩

set_option maxHeartbeats 1600000 in
theorem l5text_any (B : Nat) (v : Value) (O : List Int) (s : ByteArray) (w : World) (ow : w.ownsRow B 5 1 v O.length (bytesV O)) (hO : O.length ≤ 100000000) (hs : s.size ≤ 1048576) (hB : B ≤ w.heap.size) :
    Calls Try.prog 26 #[v, .string s] w fun e w' => BtAns B w v (O ++ textB s) e w' := by
  obtain ⟨i, hi, hz0, hz1, hz2⟩ := info_parts infoB
  obtain ⟨x, c, rfl⟩ := bytes_form ow
  go_enter Try.func26, Try.ntmps26
  go_wp2_with (at_builtin; refine wpList_append_lies _ rfl _ _ 22 rfl B 5 i (.int .u8 0) 1 1 Try.underlying22 hi hz0 hz1 hz2 rfl (by decide) (.slice x O.length c) O.length (bytesV O) rfl (World.ownsRow.alloc ow _) ⟨w.heap.size, 0, none⟩ 1 1 [.int .u8 ((s.size : Int) % 256)] rfl rfl ?b1 ?b2 (by decide) ?b3 ?b4 ?b5 _ rfl ?_)
  case b1 => exact World.news_of_block (heap_alloc_new w _)
  case b2 => intro u hu; simp at hu; subst hu; rfl
  case b3 => unfold maxLen; omega
  case b4 => omega
  case b5 => simp; omega
  intro g cap w3 O3 hgrow hat hgl
  have K3 := kp_append (n := O.length + 1) (c := cap) hgrow hat
  have B3 := ((Below.refl B w).alloc hB (.cells #[.int .u8 ((s.size : Int) % 256)] 5)).grown hgrow (by simp; omega) (fun q hq => (ow.lt q hq).1)
  have O4 := bytes_snoc O3
  rw [← beB1] at O4
  obtain ⟨O5, HO5⟩ : ∃ O5, Hid (O ++ beB (s.size : Int) 1 = O5) := ⟨_, hide rfl⟩
  have hl5 : O.length + 1 = O5.length := by rw [← unhide HO5, List.length_append, beB_len]
  rw [unhide HO5, hl5] at O4
  rw [hl5] at K3 ⊢
  have hl6 : O5.length ≤ 100000001 := by omega
  clear hl5
  have hB3 := Nat.le_trans hB B3.size
  clear hgrow hat O3
  go_wp2_with (at_builtin; refine wpList_append_str_lies rfl _ _ 22 9 rfl B 5 i Try.underlying22 Try.underlying9 hi hz0 hz1 hz2 (.slice (some ⟨g, 0, none⟩) O5.length cap) O5.length (bytesV O5) rfl O4 s rfl (by unfold maxLen; omega) (by omega) hB3 ?_; intro v6 w6 O6 hgrow hat; have K6 := kp_str hgrow hat; have B6 := B3.grown hgrow hB3 (fun q hq => (O4.lt q hq).1); obtain ⟨x6, c6, hv6⟩ := bytes_form O6; subst hv6; have O7 := bytes_app O6; clear hgrow hat)
  go_ret
  refine ⟨_, rfl, ?_, K3.trans K6, B6⟩
  rw [textB, ← List.append_assoc, unhide HO5]
  exact O7

end Go.Proofs.Ytmkoidbpkhiohaa

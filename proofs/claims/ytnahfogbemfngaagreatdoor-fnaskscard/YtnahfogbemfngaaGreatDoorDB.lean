/-
  The draws of lists of names. Own work.
-/
import Derived.Test.YtnahfogbemfngaaGreatDoorDA
import Derived.Test.YtnahfogbemfngaaGreatDoorAP
namespace Go.Proofs.YtnahfogbemfngaaGreatDoor
open Go.RowKit
set_option linter.unusedVariables false

theorem Touch.grown {lo hi : Nat} {w w1 w2 : World} {row : Option Nat} (t : Touch lo hi w w1) (hg : w1.grownBy w2 row) (hr : ∀ k, row = some k → w.heap.size ≤ k) : Touch lo hi w w2 :=
  t.then_below (B := w.heap.size) ((Below.refl w.heap.size w1).grown hg t.size hr) (Nat.le_refl _)

/-- a list of names, drawn -/
structure Names (w : World) (base : Nat) (x : Option Addr) (K : List ByteArray) (cx : Nat) : Prop where
  own : w.ownsRow base 9 1 (.slice x K.length cx) K.length (K.map Value.string)
  small : ∀ s ∈ K, s.size ≤ 1000

theorem Names.sizes {w : World} {base cx : Nat} {x : Option Addr} {K : List ByteArray} (h : Names w base x K cx) : ∀ j, j < K.length → (nth K j).size ≤ maxLen := fun j hj => by
  rw [nth_eq K j hj]
  have := h.small _ (List.getElem_mem hj)
  unfold maxLen; omega

theorem Names.strs {w : World} {base cx : Nat} {x : Option Addr} {K : List ByteArray} (h : Names w base x K cx) : Strs w x K.length cx K := Strs.of_owns h.own h.sizes

theorem Names.nil (w : World) (base : Nat) : Names w base none [] 0 := ⟨World.ownsRow_nil _ _ _ _, by simp⟩

theorem Names.touch {w w' : World} {base lo hi cx : Nat} {x : Option Addr} {K : List ByteArray} (h : Names w base x K cx) (t : Touch lo hi w w') (hb : hi ≤ base) : Names w' base x K cx :=
  ⟨owns_of_block h.own (fun y hy => by subst hy; have := h.own.lt _ rfl; exact t.block _ this.2 (.inr (by omega))), h.small⟩

theorem Names.below {w w' : World} {base B cx : Nat} {x : Option Addr} {K : List ByteArray} (h : Names w base x K cx) (hb : Below B w w') (hB : w.heap.size ≤ B) : Names w' base x K cx :=
  ⟨owns_of_block h.own (fun y hy => by subst hy; have := h.own.lt _ rfl; exact hb.block _ (by omega)), h.small⟩

theorem Names.mono {w : World} {base base' cx : Nat} {x : Option Addr} {K : List ByteArray} (h : Names w base x K cx) (hb : base' ≤ base) : Names w base' x K cx := ⟨owns_mono h.own hb, h.small⟩

/-- what l1wide answers -/
def WideAns (w : World) (m : Nat) (e : Ending) (w' : World) : Prop := ∃ x cx K, e = .returned (.slice x K.length cx) ∧ K.length ≤ m ∧ Names w' w.heap.size x K cx ∧ Below w.heap.size w w'

set_option maxRecDepth 100000 in
set_option maxHeartbeats 1600000 in
theorem l1wide_any (m : Nat) (f : Int) (w : World) (hm : m ≤ 64) (f0 : 0 ≤ f) (f1 : f ≤ 200) :
    Calls Tryz.prog 32 #[.int .i64 m, .int .i64 f] w fun e w' => WideAns w m e w' := by
  obtain ⟨i, hi, hz0, hz1, hz2⟩ := info_parts infoS
  go_enter Tryz.func32, Tryz.ntmps32
  go_wp2_with fail
  go_loopw [5, 6] (fun v ix wr => ∃ (k : Nat) (K : List ByteArray) (x : Option Addr) (cx : Nat), k ≤ m ∧ ix = .int .i64 k ∧ v = .slice x K.length cx ∧ K.length ≤ k ∧ Names wr w.heap.size x K cx ∧ Below w.heap.size w wr) (fun _ ix _ => m - (intOf ix).toNat)
  case atStart => exact ⟨0, [], none, 0, Nat.zero_le _, rfl, rfl, Nat.le_refl _, Names.nil _ _, Below.refl _ _⟩
  case round =>
    obtain ⟨k, K, x, cx, hk, rfl, rfl, hK, hN, hb⟩ := hrel
    by_cases hlt : k < m
    · have ilt : (k : Int) < (m : Int) := by omega
      go_wp2_with fail
      refine (l1decimal_int _ _ (by omega) (by omega)).mono ?_
      rintro e w1 ⟨rfl, hb1⟩
      have z1 := decB_size (f + (k : Int)).toNat
      have k1 : (⟨#[119]⟩ : ByteArray).size = 1 := rfl
      have B1 := hb.trans (hb1.mono hb.size)
      have N1 := hN.below hb1 (Nat.le_refl _)
      have O1 := N1.own
      have hbs := B1.size
      clear hN hb1 hb
      go_wp2_with (at_builtin; refine wpList_append_own _ rfl _ _ 23 rfl w.heap.size 9 i (.string ByteArray.empty) 1 16 Tryz.underlying23 hi hz0 hz1 hz2 rfl (by decide) _ _ _ rfl (O1.alloc _) ⟨w1.heap.size, 0, none⟩ 1 1 [.string (⟨#[119]⟩ ++ decB (f + (k : Int)).toNat)] rfl rfl ?c1 ?c2 ?c3 ?c4 ?c5 ?_)
      case c1 => exact cell_one_new _ _ _
      case c2 => intro u hu; simp at hu; subst hu; rfl
      case c3 => unfold maxLen; omega
      case c4 => omega
      case c5 => simp; omega
      intro v' w2 hown' hgrow _
      have B2 : Below w.heap.size w w2 := (B1.alloc hbs _).grown hgrow (by simp; omega) (fun k hk => (O1.lt k hk).1)
      obtain ⟨x', cx', hf⟩ := owns_form hown'
      rw [hf] at hown' ⊢
      clear hgrow hf
      go_wp2
      go_roundw
      case rel => exact ⟨k + 1, K ++ [⟨#[119]⟩ ++ decB (f + (k : Int)).toNat], x', cx', by omega, by go_num, by rw [List.length_append]; rfl, by simp; omega, ⟨by rw [List.map_append, List.length_append]; exact hown', fun s hs => by
        rcases List.mem_append.1 hs with hs | hs
        · exact N1.small s hs
        · simp only [List.mem_singleton] at hs; subst hs; rw [size_app]; omega⟩, B2⟩
      case measure => simp [intOf] <;> omega
    · have ilt : ¬ ((k : Int) < (m : Int)) := by omega
      go_wp2
      go_ret
      exact ⟨x, cx, K, rfl, by omega, hN, hb⟩

theorem l1wide_int (m f : Int) (w : World) (m0 : 0 ≤ m) (hm : m ≤ 64) (f0 : 0 ≤ f) (f1 : f ≤ 200) :
    Calls Tryz.prog 32 #[.int .i64 m, .int .i64 f] w fun e w' => WideAns w m.toNat e w' := by
  obtain ⟨k, rfl⟩ := Int.eq_ofNat_of_zero_le m0
  exact l1wide_any k f w (by omega) f0 f1

/-- what l1set, l1spoil, l1maybe answer -/
def ListAns (R : Nat) (a : Option Addr) (n c : Nat) (w : World) (top : Nat) (e : Ending) (w' : World) : Prop :=
  ∃ x cx K, e = .returned (.slice x K.length cx) ∧ K.length ≤ top ∧ Names w' w.heap.size x K cx ∧ RdAt w' R a n c ∧ Touch R (R + 1) w w'

theorem sorted_small {K M : List ByteArray} (h : IsSorted K M) (hs : ∀ s ∈ K, s.size ≤ 1000) : ∀ s ∈ M, s.size ≤ 1000 := fun s hm => hs s ((h.mem s).1 hm)

set_option maxRecDepth 100000 in
set_option maxHeartbeats 3200000 in
theorem l1set_t (R : Nat) (a : Option Addr) (n c : Nat) (w : World) (h : RdAt w R a n c) :
    Calls Tryz.prog 31 #[.pointer (some ⟨R, 0, none⟩)] w fun e w' => ListAns R a n c w 64 e w' := by
  obtain ⟨i, hi, hz0, hz1, hz2⟩ := info_parts infoS
  have hR := h.lt
  go_enter Tryz.func31, Tryz.ntmps31
  go_wp2_with fail
  refine (next_t R a n c w h).mono ?_
  rintro e w1 ⟨x, rfl, x0, x1, h1, t1⟩
  clear h
  by_cases e12 : x % 13 = 12
  · have q12 : (x % 13 == 12) = true := beq_iff_eq.2 e12
    clear e12
    go_wp2_with fail
    refine (next_t R a n c w1 h1).mono ?_
    rintro e w2 ⟨y, rfl, y0, y1, h2, t2⟩
    have T2 := t1.trans t2
    clear h1 t1 t2
    go_wp2_with fail
    refine (l1wide_int _ _ _ (by omega) (by omega) (by omega) (by omega)).mono ?_
    rintro e w3 ⟨x3, c3, K3, rfl, l3, N3, b3⟩
    go_wp2_with fail
    refine (l1sorted_any _ _ _ _ _ N3.strs (by omega)).mono ?_
    rintro e w4 ⟨x4, c4, K4, rfl, o4, b4, s4⟩
    have B4 := b3.trans (b4.mono b3.size)
    have hl := s4.len
    go_wp2_with fail
    go_ret
    exact ⟨x4, c4, K4, rfl, by omega, ⟨owns_mono o4 (Nat.le_trans T2.size b3.size), sorted_small s4 N3.small⟩, h2.after B4 h2.lt, T2.then_below B4 T2.size⟩
  · have q12 : (x % 13 == 12) = false := beq_eq_false_iff_ne.2 e12
    clear e12
    go_wp2_with fail
    go_loopw [4, 5] (fun v ix wr => ∃ (k : Int) (K : List ByteArray) (y : Option Addr) (cy : Nat), 0 ≤ k ∧ k ≤ 6 ∧ (K.length : Int) + k ≤ 6 ∧ ix = .int .i64 k ∧ v = .slice y K.length cy ∧ Names wr w.heap.size y K cy ∧ RdAt wr R a n c ∧ Touch R (R + 1) w wr) (fun _ ix _ => (intOf ix).toNat)
    case atStart => exact ⟨x % 13 % 7, [], none, 0, by omega, by omega, by simp; omega, rfl, rfl, Names.nil _ _, h1, t1⟩
    case round =>
      obtain ⟨k, K, y, cy, k0, k6, hK, rfl, rfl, hN, hr, ht⟩ := hrel
      by_cases hk : 0 < k
      · go_wp2_with fail
        refine (l1word_t R a n c wr hr).mono ?_
        rintro e w2 ⟨s, rfl, zs, h2, t2⟩
        have N2 := hN.touch t2 (by omega)
        have T2 := ht.trans t2
        have O2 := N2.own
        have hbs := T2.size
        clear hN hr ht t2
        go_wp2_with (at_builtin; refine wpList_append_own _ rfl _ _ 23 rfl w.heap.size 9 i (.string ByteArray.empty) 1 16 Tryz.underlying23 hi hz0 hz1 hz2 rfl (by decide) _ _ _ rfl (O2.alloc _) ⟨w2.heap.size, 0, none⟩ 1 1 [.string s] rfl rfl ?c1 ?c2 ?c3 ?c4 ?c5 ?_)
        case c1 => exact cell_one_new _ _ _
        case c2 => intro u hu; simp at hu; subst hu; rfl
        case c3 => unfold maxLen; omega
        case c4 => omega
        case c5 => simp; omega
        intro v' w3 hown' hgrow _
        have B23 : Below w.heap.size w2 w3 := ((Below.refl w.heap.size w2).alloc hbs _).grown hgrow (by simp; omega) (fun k hk => (O2.lt k hk).1)
        obtain ⟨x', cx', hf⟩ := owns_form hown'
        rw [hf] at hown' ⊢
        clear hgrow hf
        go_wp2
        go_roundw
        case rel => exact ⟨k - 1, K ++ [s], x', cx', by omega, by omega, by simp; omega, by go_num, by rw [List.length_append]; rfl, ⟨by rw [List.map_append, List.length_append]; exact hown', fun u hu => by
          rcases List.mem_append.1 hu with hu | hu
          · exact N2.small u hu
          · simp only [List.mem_singleton] at hu; subst hu; exact zs⟩, h2.after B23 hR, T2.then_below B23 (Nat.le_refl _)⟩
        case measure => simp [intOf] <;> omega
      · have hk' : ¬ (0 < k) := hk
        have hKn : K.length ≤ 6 := by omega
        go_wp2_with fail
        refine (l1sorted_any _ _ _ _ _ hN.strs (by omega)).mono ?_
        rintro e w4 ⟨x4, c4, K4, rfl, o4, b4, s4⟩
        have hl := s4.len
        go_wp2_with fail
        go_ret
        exact ⟨x4, c4, K4, rfl, by omega, ⟨owns_mono o4 ht.size, sorted_small s4 hN.small⟩, hr.after b4 hr.lt, ht.then_below b4 ht.size⟩

end Go.Proofs.YtnahfogbemfngaaGreatDoor

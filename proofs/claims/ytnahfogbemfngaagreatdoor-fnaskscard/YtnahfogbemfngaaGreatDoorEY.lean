/-
  The draws of lists, exactly. Own work.
-/
import Derived.Test.YtnahfogbemfngaaGreatDoorEX
namespace Go.Proofs.YtnahfogbemfngaaGreatDoor
open Go.RowKit
set_option linter.unusedVariables false

/-- what l1wide is -/
def wideF (m : Nat) (f : Int) : List ByteArray := (List.range m).map fun (i : Nat) => (⟨#[119]⟩ : ByteArray) ++ decB (f + (i : Int)).toNat

theorem wideF_succ (m : Nat) (f : Int) : wideF (m + 1) f = wideF m f ++ [(⟨#[119]⟩ : ByteArray) ++ decB (f + (m : Int)).toNat] := by
  simp [wideF, List.range_succ]

theorem wideF_len (m : Nat) (f : Int) : (wideF m f).length = m := by simp [wideF]

def WideX (w : World) (m : Nat) (f : Int) (e : Ending) (w' : World) : Prop := ∃ x cx K, e = .returned (.slice x K.length cx) ∧ Hid (K = wideF m f) ∧ K.length ≤ m ∧ Names w' w.heap.size x K cx ∧ Below w.heap.size w w'

set_option maxRecDepth 100000 in
set_option maxHeartbeats 1600000 in
theorem l1wide_x (m : Nat) (f : Int) (w : World) (hm : m ≤ 64) (f0 : 0 ≤ f) (f1 : f ≤ 200) :
    Calls Tryz.prog 32 #[.int .i64 m, .int .i64 f] w fun e w' => WideX w m f e w' := by
  obtain ⟨i, hi, hz0, hz1, hz2⟩ := info_parts infoS
  go_enter Tryz.func32, Tryz.ntmps32
  go_wp2_with fail
  go_loopw [5, 6] (fun v ix wr => ∃ (k : Nat) (K : List ByteArray) (x : Option Addr) (cx : Nat), k ≤ m ∧ ix = .int .i64 k ∧ v = .slice x K.length cx ∧ Hid (K = wideF k f) ∧ K.length ≤ k ∧ Names wr w.heap.size x K cx ∧ Below w.heap.size w wr) (fun _ ix _ => m - (intOf ix).toNat)
  case atStart => exact ⟨0, [], none, 0, Nat.zero_le _, rfl, rfl, hide rfl, Nat.le_refl _, Names.nil _ _, Below.refl _ _⟩
  case round =>
    obtain ⟨k, K, x, cx, hk, rfl, rfl, HK, hK, hN, hb⟩ := hrel
    by_cases hlt : k < m
    · have ilt : (k : Int) < (m : Int) := by omega
      go_wp2_with fail
      refine (l1decimal_int _ _ (by omega) (by omega)).mono ?_
      rintro e w1 ⟨rfl, hb1⟩
      have z1 := decB_size (f + (k : Int)).toNat
      have k1 : (⟨#[119]⟩ : ByteArray).size = 1 := rfl
      have B1 := hb.trans (hb1.mono hb.size)
      have N1 := hN.below hb1 (Nat.le_refl _)
      have O1 := N1.own
      have hbs := B1.size
      clear hN hb1 hb
      go_wp2_with (at_builtin; refine wpList_append_own _ rfl _ _ 23 rfl w.heap.size 9 i (.string ByteArray.empty) 1 16 Tryz.underlying23 hi hz0 hz1 hz2 rfl (by decide) _ _ _ rfl (O1.alloc _) ⟨w1.heap.size, 0, none⟩ 1 1 [.string (⟨#[119]⟩ ++ decB (f + (k : Int)).toNat)] rfl rfl ?c1 ?c2 ?c3 ?c4 ?c5 ?_)
      case c1 => exact cell_one_new _ _ _
      case c2 => intro u hu; simp at hu; subst hu; rfl
      case c3 => unfold maxLen; omega
      case c4 => omega
      case c5 => simp; omega
      intro v' w2 hown' hgrow _
      have B2 : Below w.heap.size w w2 := (B1.alloc hbs _).grown hgrow (by simp; omega) (fun k hk => (O1.lt k hk).1)
      obtain ⟨x', cx', hf⟩ := owns_form hown'
      rw [hf] at hown' ⊢
      clear hgrow hf
      go_wp2
      go_roundw
      case rel => exact ⟨k + 1, K ++ [⟨#[119]⟩ ++ decB (f + (k : Int)).toNat], x', cx', by omega, by go_num, by rw [List.length_append]; rfl, hide (by rw [wideF_succ, unhide HK]), by simp; omega, Names.snoc hown' N1.small (by rw [size_app]; omega), B2⟩
      case measure => simp [intOf] <;> omega
    · have ilt : ¬ ((k : Int) < (m : Int)) := by omega
      obtain rfl : k = m := by omega
      go_wp2
      go_ret
      exact ⟨x, cx, K, rfl, HK, hK, hN, hb⟩

theorem l1wide_xi (m f : Int) (w : World) (m0 : 0 ≤ m) (hm : m ≤ 64) (f0 : 0 ≤ f) (f1 : f ≤ 200) :
    Calls Tryz.prog 32 #[.int .i64 m, .int .i64 f] w fun e w' => WideX w m.toNat f e w' := by
  obtain ⟨k, rfl⟩ := Int.eq_ofNat_of_zero_le m0
  exact l1wide_x k f w (by omega) f0 f1

/-- so many words -/
def namesF (zs : List Int) : Nat → Nat → List ByteArray × Nat
  | 0, p => ([], p)
  | k + 1, p => ((wordF zs p).1 :: (namesF zs k (wordF zs p).2).1, (namesF zs k (wordF zs p).2).2)

/-- what l1set is -/
def SetX (zs : List Int) (p : Nat) (K : List ByteArray) (q : Nat) : Prop :=
  ((nx zs p).1 % 13 = 12 → IsSorted (wideF (64 - (nx zs p).1 / 13 % 3).toNat ((nx zs (nx zs p).2).1 % 40)) K ∧ q = (nx zs (nx zs p).2).2) ∧
  ((nx zs p).1 % 13 ≠ 12 → IsSorted (namesF zs ((nx zs p).1 % 13 % 7).toNat (nx zs p).2).1 K ∧ q = (namesF zs ((nx zs p).1 % 13 % 7).toNat (nx zs p).2).2)

theorem SetX.unique {zs : List Int} {p q q' : Nat} {K K' : List ByteArray} (h : SetX zs p K q) (h' : SetX zs p K' q') : K = K' ∧ q = q' := by
  by_cases e : (nx zs p).1 % 13 = 12
  · obtain ⟨a1, a2⟩ := h.1 e
    obtain ⟨b1, b2⟩ := h'.1 e
    exact ⟨a1.unique b1, by rw [a2, b2]⟩
  · obtain ⟨a1, a2⟩ := h.2 e
    obtain ⟨b1, b2⟩ := h'.2 e
    exact ⟨a1.unique b1, by rw [a2, b2]⟩

/-- what l1set answers -/
def LisX (R : Nat) (a : Option Addr) (n c : Nat) (zs : List Int) (S : List ByteArray → Nat → Prop) (w : World) (top : Nat) (e : Ending) (w' : World) : Prop :=
  ∃ x cx K q, e = .returned (.slice x K.length cx) ∧ Hid (S K q) ∧ K.length ≤ top ∧ Names w' w.heap.size x K cx ∧ RdX w' R a n c zs q ∧ Touch R (R + 1) w w'

set_option maxRecDepth 100000 in
set_option maxHeartbeats 3200000 in
theorem l1set_x (R : Nat) (a : Option Addr) (n c : Nat) (zs : List Int) (p : Nat) (w : World) (h : RdX w R a n c zs p) :
    Calls Tryz.prog 31 #[.pointer (some ⟨R, 0, none⟩)] w fun e w' => LisX R a n c zs (SetX zs p) w 64 e w' := by
  obtain ⟨i, hi, hz0, hz1, hz2⟩ := info_parts infoS
  have hR := h.lt
  go_enter Tryz.func31, Tryz.ntmps31
  go_wp2_with fail
  refine (next_x R a n c zs p w h).mono ?_
  rintro e w1 ⟨x, p1, rfl, X1, x0, x1, h1, t1⟩
  clear h
  by_cases e12 : x % 13 = 12
  · have q12 : (x % 13 == 12) = true := beq_iff_eq.2 e12
    have E12 := hide e12
    clear e12
    go_wp2_with fail
    refine (next_x R a n c zs p1 w1 h1).mono ?_
    rintro e w2 ⟨y, p2, rfl, X2, y0, y1, h2, t2⟩
    have T2 := t1.trans t2
    clear h1 t1 t2
    go_wp2_with fail
    refine (l1wide_xi _ _ _ (by omega) (by omega) (by omega) (by omega)).mono ?_
    rintro e w3 ⟨x3, c3, K3, rfl, HK3, l3, N3, b3⟩
    have l3' : K3.length ≤ 64 := by omega
    clear l3
    go_wp2_with fail
    refine (l1sorted_any _ _ _ _ _ N3.strs (by omega)).mono ?_
    rintro e w4 ⟨x4, c4, K4, rfl, o4, b4, s4⟩
    have B4 := b3.trans (b4.mono b3.size)
    have hl := s4.len
    go_wp2_with fail
    go_ret
    refine ⟨x4, c4, K4, p2, rfl, hide ⟨fun _ => ?_, fun hne => ?_⟩, by omega, ⟨owns_mono o4 (Nat.le_trans T2.size b3.size), sorted_small s4 N3.small⟩, h2.after B4 h2.lt, T2.then_below B4 T2.size⟩
    · rw [unhide X1, unhide X2, ← unhide HK3]; exact ⟨s4, rfl⟩
    · rw [unhide X1] at hne; exact absurd (unhide E12) hne
  · have q12 : (x % 13 == 12) = false := beq_eq_false_iff_ne.2 e12
    have E12 := hide e12
    clear e12
    go_wp2_with fail
    go_loopw [4, 5] (fun v ix wr => ∃ (k : Int) (K : List ByteArray) (y : Option Addr) (cy : Nat) (q : Nat), 0 ≤ k ∧ k ≤ 6 ∧ (K.length : Int) + k ≤ 6 ∧ ix = .int .i64 k ∧ v = .slice y K.length cy ∧ Hid (K ++ (namesF zs k.toNat q).1 = (namesF zs (x % 13 % 7).toNat p1).1 ∧ (namesF zs k.toNat q).2 = (namesF zs (x % 13 % 7).toNat p1).2) ∧ Names wr w.heap.size y K cy ∧ RdX wr R a n c zs q ∧ Touch R (R + 1) w wr) (fun _ ix _ => (intOf ix).toNat)
    case atStart => exact ⟨x % 13 % 7, [], none, 0, p1, by omega, by omega, by simp; omega, rfl, rfl, hide ⟨rfl, rfl⟩, Names.nil _ _, h1, t1⟩
    case round =>
      obtain ⟨k, K, y, cy, q, k0, k6, hK, rfl, rfl, HK, hN, hr, ht⟩ := hrel
      by_cases hk : 0 < k
      · go_wp2_with fail
        refine (l1word_x R a n c zs q wr hr).mono ?_
        rintro e w2 ⟨s, q2, rfl, S2, zs2, h2, t2⟩
        have N2 := hN.touch t2 (by omega)
        have T2 := ht.trans t2
        have O2 := N2.own
        have hbs := T2.size
        have HK' := hide (show (K ++ [s]) ++ (namesF zs (k - 1).toNat q2).1 = (namesF zs (x % 13 % 7).toNat p1).1 ∧ (namesF zs (k - 1).toNat q2).2 = (namesF zs (x % 13 % 7).toNat p1).2 by
          have hh := unhide HK
          rw [show k.toNat = (k - 1).toNat + 1 by omega] at hh
          simp only [namesF, unhide S2] at hh
          exact ⟨by rw [← hh.1]; simp, hh.2⟩)
        clear hN hr ht t2 HK
        go_wp2_with (at_builtin; refine wpList_append_own _ rfl _ _ 23 rfl w.heap.size 9 i (.string ByteArray.empty) 1 16 Tryz.underlying23 hi hz0 hz1 hz2 rfl (by decide) _ _ _ rfl (O2.alloc _) ⟨w2.heap.size, 0, none⟩ 1 1 [.string s] rfl rfl ?c1 ?c2 ?c3 ?c4 ?c5 ?_)
        case c1 => exact cell_one_new _ _ _
        case c2 => intro u hu; simp at hu; subst hu; rfl
        case c3 => unfold maxLen; omega
        case c4 => omega
        case c5 => simp; omega
        intro v' w3 hown' hgrow _
        have B23 : Below w.heap.size w2 w3 := ((Below.refl w.heap.size w2).alloc hbs _).grown hgrow (by simp; omega) (fun k hk => (O2.lt k hk).1)
        obtain ⟨x', cx', hf⟩ := owns_form hown'
        rw [hf] at hown' ⊢
        clear hgrow hf
        go_wp2
        go_roundw
        case rel => exact ⟨k - 1, K ++ [s], x', cx', q2, by omega, by omega, by simp; omega, by go_num, by rw [List.length_append]; rfl, HK', Names.snoc hown' N2.small zs2, h2.after B23 hR, T2.then_below B23 (Nat.le_refl _)⟩
        case measure => simp [intOf] <;> omega
      · have hk' : ¬ (0 < k) := hk
        have hKn : K.length ≤ 6 := by omega
        have HK' := hide (show K = (namesF zs (x % 13 % 7).toNat p1).1 ∧ q = (namesF zs (x % 13 % 7).toNat p1).2 by
          have hh := unhide HK
          rw [show k.toNat = 0 by omega] at hh
          simp only [namesF, List.append_nil] at hh
          exact hh)
        clear HK
        go_wp2_with fail
        refine (l1sorted_any _ _ _ _ _ hN.strs (by omega)).mono ?_
        rintro e w4 ⟨x4, c4, K4, rfl, o4, b4, s4⟩
        have hl := s4.len
        go_wp2_with fail
        go_ret
        refine ⟨x4, c4, K4, q, rfl, hide ⟨fun he => ?_, fun _ => ?_⟩, by omega, ⟨owns_mono o4 ht.size, sorted_small s4 hN.small⟩, hr.after b4 hr.lt, ht.then_below b4 ht.size⟩
        · rw [unhide X1] at he; exact absurd he (unhide E12)
        · rw [unhide X1, ← (unhide HK').1]; exact ⟨s4, (unhide HK').2⟩

end Go.Proofs.YtnahfogbemfngaaGreatDoor

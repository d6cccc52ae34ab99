/-
  FnExactParseAsk: the law's helpers and the law. Own work.
-/
import Derived.Test.YtecfjbdeiemclaaDoorPE
import Derived.Test.YtecfjbdeiemclaaDoorOwn
import Derived.Deep.RegionWith
namespace Go.Proofs.YtecfjbdeiemclaaDoor
open Go.RowKit
set_option linter.unusedVariables false

set_option maxHeartbeats 800000 in
theorem eqAsk_eq (cl us : ByteArray) (lv : Int) (a : Option Addr) (n c : Nat) (ss : List ByteArray) (a' : Option Addr) (c' : Nat) (w : World) (h : Strs w a n c ss) (h' : Strs w a' n c' ss) :
    Calls Tryd.prog 6 #[.agg #[.string cl, .string us, .int .i64 lv, .slice a n c], .agg #[.string cl, .string us, .int .i64 lv, .slice a' n c']] w fun e w' => e = .returned (.bool true) ∧ Below w.heap.size w w' := by
  have B0 := ((Below.refl w.heap.size w).alloc (Nat.le_refl _) (.cells #[.string cl, .string us, .int .i64 lv, .slice a n c] 24)).alloc (by simp) (.cells #[.string cl, .string us, .int .i64 lv, .slice a' n c'] 24)
  go_enter Tryd.func6, Tryd.ntmps6
  go_wp2_with fail
  refine (eqStringS_same _ _ _ _ _ _ _ (h.below B0 (Nat.le_refl _)) (h'.below B0 (Nat.le_refl _))).mono ?_
  rintro e w1 ⟨rfl, hb1⟩
  have B1 := B0.trans (hb1.mono (by simp; omega))
  go_wp2_with fail
  go_ret
  exact ⟨rfl, B1⟩

set_option maxHeartbeats 800000 in
theorem markAsk_any (lo hi : Nat) (cl us : ByteArray) (lv : Int) (a : Option Addr) (n c : Nat) (ss : List ByteArray) (x : Int) (w : World) (h : OwnS w lo hi a n c ss) (h0 : 0 ≤ x) (hk : x + n ≤ 1073741824) :
    Calls Tryd.prog 7 #[.agg #[.string cl, .string us, .int .i64 lv, .slice a n c], .int .i64 x] w fun e w' => e = .returned (.int .i64 (x + n)) ∧ OwnS w' lo hi a n c (marks x.toNat n) ∧ Touch lo hi w w' := by
  have B0 := (Below.refl w.heap.size w).alloc (Nat.le_refl _) (.cells #[.string cl, .string us, .int .i64 lv, .slice a n c] 24)
  have O0 := h.below B0 h.top
  have T0 := Touch.of_below (lo := lo) (hi := hi) B0 (Nat.le_refl _)
  go_enter Tryd.func7, Tryd.ntmps7
  go_wp2_with fail
  refine (markStringS_int _ _ _ _ _ _ _ _ O0 h0 hk).mono ?_
  rintro e w1 ⟨rfl, O1, T1⟩
  go_wp2_with fail
  go_ret
  exact ⟨rfl, O1, T0.trans T1⟩

set_option maxHeartbeats 800000 in
theorem heldAsk_any (cl us : ByteArray) (lv : Int) (a : Option Addr) (n c : Nat) (x : Int) (w : World) (h : Strs w a n c (marks x.toNat n)) (h0 : 0 ≤ x) (hk : x + n ≤ 1073741824) :
    Calls Tryd.prog 8 #[.agg #[.string cl, .string us, .int .i64 lv, .slice a n c], .int .i64 x] w fun e w' => e = .returned (.int .i64 (x + n)) ∧ Below w.heap.size w w' := by
  have B0 := (Below.refl w.heap.size w).alloc (Nat.le_refl _) (.cells #[.string cl, .string us, .int .i64 lv, .slice a n c] 24)
  have hq : ¬ (x + n < 0) := by omega
  go_enter Tryd.func8, Tryd.ntmps8
  go_wp2_with fail
  refine (heldStringS_int _ _ _ _ _ (h.below B0 (Nat.le_refl _)) h0 hk).mono ?_
  rintro e w1 ⟨rfl, hb1⟩
  have B1 := B0.trans (hb1.mono (by simp))
  go_wp2_with fail
  go_ret
  exact ⟨rfl, B1⟩

theorem Row.touch {w w' : World} {b lo hi : Nat} {cs : Array Value} {t : TypeId} (h : Row w b cs t) (T : Touch lo hi w w') (hd : b < lo ∨ hi ≤ b) : Row w' b cs t := ⟨(T.block b h.lt hd).trans h.out⟩

/-- the cells of an ask -/
theorem ask_cells {w : World} {b : Nat} {cl us : ByteArray} {lv : Int} {v : Value} {ty : TypeId} (R : Row w b #[.string cl, .string us, .int .i64 lv, v] ty) :
    w.cell? ⟨b, 0, none⟩ = some (.string cl) ∧ w.cell? ⟨b, 1, none⟩ = some (.string us) ∧ w.cell? ⟨b, 2, none⟩ = some (.int .i64 lv) ∧ w.cell? ⟨b, 3, none⟩ = some v :=
  ⟨by simpa using R.cell 0, by simpa using R.cell 1, by simpa using R.cell 2, by simpa using R.cell 3⟩

set_option maxRecDepth 100000 in
set_option maxHeartbeats 6400000 in
theorem fnExactParseAsk_walk (t : ByteArray) (w : World) (hm : MaxL w) (htt : t.size ≤ maxLen) :
    Calls Tryd.prog 3 #[.string t] w fun e w' => e = .returned (.bool true) ∧ Below w.heap.size w w' := by
  unfold maxLen at htt
  by_cases hl : 1048576 < t.size
  · have il : (1048576 : Int) < (t.size : Int) := by omega
    go_enter Tryd.func3, Tryd.ntmps3
    go_wp2_with fail
    go_ret
    exact ⟨rfl, Below.refl _ _⟩
  have il : ¬ ((1048576 : Int) < (t.size : Int)) := by omega
  have ht : t.size ≤ 1048576 := by omega
  clear hl
  go_enter Tryd.func3, Tryd.ntmps3
  go_wp2_with fail
  refine (sParseAsk_any t _ ht).mono ?_
  rintro e w1 ⟨cl, us, lv, x, cx, K, o, rfl, ho1, B1, h1⟩
  have hK := h1.len
  have hKs := h1.sizes
  have H1 := hide h1
  clear h1
  have OW := OwnS.of ho1 hKs
  clear ho1
  have B2 := B1.alloc B1.size (.cells #[.string cl, .string us, .int .i64 lv, .slice x K.length cx] 24)
  have B12 := (Below.refl w1.heap.size w1).alloc (Nat.le_refl _) (.cells #[.string cl, .string us, .int .i64 lv, .slice x K.length cx] 24)
  have RW := Row.new w1 #[.string cl, .string us, .int .i64 lv, .slice x K.length cx] 24
  have OW := OW.below B12 (Nat.le_refl _)
  have hm2 := hm.below B2
  have z12 : (w1.alloc (.cells #[.string cl, .string us, .int .i64 lv, .slice x K.length cx] 24)).heap.size = w1.heap.size + 1 := by simp
  go_wp2_with fail
  generalize w1.alloc (.cells #[.string cl, .string us, .int .i64 lv, .slice x K.length cx] 24) = w2 at B2 B12 RW OW hm2 z12 ⊢
  refine (iParseAsk_any t _ ht hm2).mono ?_
  rintro e w3 ⟨cl2, us2, lv2, y, cy, K2, o2, rfl, ho3, hb3, h3⟩
  obtain ⟨e1, e2, e3, e4, e5⟩ := h3.unique (unhide H1)
  subst e1 e2 e3 e4 e5
  clear h3
  have OG := OwnS.of ho3 hKs
  have OW := OW.below hb3 (by have := OW.top; omega)
  have RW := RW.after hb3 (Nat.le_refl _)
  have B3 := B2.trans (hb3.mono B2.size)
  have z23 := hb3.size
  have hm3 := hm2.below hb3
  clear ho3 hb3 hm2 B2 B12
  have B4 := B3.alloc B3.size (.cells #[.string cl2, .string us2, .int .i64 lv2, .slice y K2.length cy] 24)
  have B34 := (Below.refl w3.heap.size w3).alloc (Nat.le_refl _) (.cells #[.string cl2, .string us2, .int .i64 lv2, .slice y K2.length cy] 24)
  have RW := RW.alloc (.cells #[.string cl2, .string us2, .int .i64 lv2, .slice y K2.length cy] 24)
  have RG := Row.new w3 #[.string cl2, .string us2, .int .i64 lv2, .slice y K2.length cy] 24
  have OW := OW.below B34 (by have := OW.top; omega)
  have OG := OG.below B34 (Nat.le_refl _)
  have hm4 := hm3.below B34
  have z34 : (w3.alloc (.cells #[.string cl2, .string us2, .int .i64 lv2, .slice y K2.length cy] 24)).heap.size = w3.heap.size + 1 := by simp
  obtain ⟨c0, c1, c2, c3⟩ := ask_cells RW
  obtain ⟨d0, d1, d2, d3⟩ := ask_cells RG
  go_wp2_with fail
  generalize w3.alloc (.cells #[.string cl2, .string us2, .int .i64 lv2, .slice y K2.length cy] 24) = w4 at B4 B34 RW RG OW OG hm4 z34 c0 c1 c2 c3 d0 d1 d2 d3 ⊢
  refine (eqAsk_eq _ _ _ _ _ _ _ _ _ _ OG.strs OW.strs).mono ?_
  rintro e w5 ⟨rfl, hb5⟩
  have B5 := B4.trans (hb5.mono B4.size)
  have RW := RW.after hb5 (Nat.le_refl _)
  have RG := RG.after hb5 (Nat.le_refl _)
  have OW := OW.below hb5 (by have := OW.top; omega)
  have OG := OG.below hb5 (by have := OG.top; omega)
  have z45 := hb5.size
  have q1 := B1.size
  clear hb5 B4 B34 hm4 hm3 B3 c0 c1 c2 c3 d0 d1 d2 d3
  obtain ⟨d0, d1, d2, d3⟩ := ask_cells RG
  go_wp2_with fail
  refine (markAsk_any _ _ _ _ _ _ _ _ _ _ _ OG (by omega) (by omega)).mono ?_
  rintro e w6 ⟨rfl, OM, T6⟩
  have B6 := below_touch B5 T6 (by omega) B5.size
  have RW := RW.touch T6 (by omega)
  have RG := RG.touch T6 (by omega)
  have OW := OW.touch T6 (by omega)
  have z56 := T6.size
  clear OG B5 T6 d0 d1 d2 d3
  obtain ⟨d0, d1, d2, d3⟩ := ask_cells RG
  go_wp2_with fail
  refine (heldAsk_any _ _ _ _ _ _ _ _ OM.strs (by omega) (by omega)).mono ?_
  rintro e w7 ⟨rfl, hb7⟩
  have B7 := B6.trans (hb7.mono B6.size)
  have RW := RW.after hb7 (Nat.le_refl _)
  have RG := RG.after hb7 (Nat.le_refl _)
  have OW := OW.below hb7 (by have := OW.top; omega)
  have OM := OM.below hb7 (by have := OM.top; omega)
  have z67 := hb7.size
  have hm7 := hm.below B7
  have hq : ¬ ((1 : Int) + K2.length < 0) := by omega
  clear B6 hb7 d0 d1 d2 d3
  go_wp2_with fail
  refine (iParseAsk_any t _ ht hm7).mono ?_
  rintro e w8 ⟨cl3, us3, lv3, y3, cy3, K3, o3, rfl, ho8, hb8, h8⟩
  obtain ⟨e1, e2, e3, e4, e5⟩ := h8.unique (unhide H1)
  subst e1 e2 e3 e4 e5
  clear h8
  have OH := OwnS.of ho8 hKs
  have B8 := B7.trans (hb8.mono B7.size)
  have RW := RW.after hb8 (Nat.le_refl _)
  have RG := RG.after hb8 (Nat.le_refl _)
  have OW := OW.below hb8 (by have := OW.top; omega)
  have OM := OM.below hb8 (by have := OM.top; omega)
  have z78 := hb8.size
  clear ho8 hb8 B7 hm7
  have B9 := B8.alloc B8.size (.cells #[.string cl3, .string us3, .int .i64 lv3, .slice y3 K3.length cy3] 24)
  have B89 := (Below.refl w8.heap.size w8).alloc (Nat.le_refl _) (.cells #[.string cl3, .string us3, .int .i64 lv3, .slice y3 K3.length cy3] 24)
  have RW := RW.alloc (.cells #[.string cl3, .string us3, .int .i64 lv3, .slice y3 K3.length cy3] 24)
  have RG := RG.alloc (.cells #[.string cl3, .string us3, .int .i64 lv3, .slice y3 K3.length cy3] 24)
  have RH := Row.new w8 #[.string cl3, .string us3, .int .i64 lv3, .slice y3 K3.length cy3] 24
  have OW := OW.below B89 (by have := OW.top; omega)
  have OM := OM.below B89 (by have := OM.top; omega)
  have OH := OH.below B89 (Nat.le_refl _)
  have z89 : (w8.alloc (.cells #[.string cl3, .string us3, .int .i64 lv3, .slice y3 K3.length cy3] 24)).heap.size = w8.heap.size + 1 := by simp
  obtain ⟨c0, c1, c2, c3⟩ := ask_cells RW
  obtain ⟨d0, d1, d2, d3⟩ := ask_cells RH
  go_wp2_with fail
  generalize w8.alloc (.cells #[.string cl3, .string us3, .int .i64 lv3, .slice y3 K3.length cy3] 24) = w9 at B9 B89 RW RG RH OW OM OH z89 c0 c1 c2 c3 d0 d1 d2 d3 ⊢
  refine (eqAsk_eq _ _ _ _ _ _ _ _ _ _ OH.strs OW.strs).mono ?_
  rintro e w10 ⟨rfl, hb10⟩
  have B10 := B9.trans (hb10.mono B9.size)
  have RG := RG.after hb10 (Nat.le_refl _)
  have OM := OM.below hb10 (by have := OM.top; omega)
  clear B8 B9 B89 RW RH OW OH hb10 c0 c1 c2 c3 d0 d1 d2 d3
  obtain ⟨d0, d1, d2, d3⟩ := ask_cells RG
  go_wp2_with fail
  refine (heldAsk_any _ _ _ _ _ _ _ _ OM.strs (by omega) (by omega)).mono ?_
  rintro e w11 ⟨rfl, hb11⟩
  have B11 := B10.trans (hb11.mono B10.size)
  clear B10 hb11 OM RG d0 d1 d2 d3
  go_wp2_with fail
  go_ret
  exact ⟨rfl, B11⟩

end Go.Proofs.YtecfjbdeiemclaaDoor

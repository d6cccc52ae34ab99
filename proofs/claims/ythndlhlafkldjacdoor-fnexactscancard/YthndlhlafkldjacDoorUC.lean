/-
  FnExactScan: the law's walk. Own work.
-/
import Derived.Test.YthndlhlafkldjacDoorUB
namespace Go.Proofs.YthndlhlafkldjacDoor
open Go.RowKit
set_option linter.unusedVariables false
variable {aS aB aT : Addr}

theorem scanF_len (n : Nat) : ∀ (f : Nat) (l : List UInt8) (out : List Tok), (scanF n f l out).toks.length ≤ out.length + l.length
  | 0, l, out => by simp [scanF]
  | f + 1, l, out => by
    rw [scanF]
    have hb := blk_le false l
    split
    · simp
    · rename_i c r hbl
      rw [hbl] at hb
      split
      · simp
      · rename_i k m s w ho
        have hok := oneF_ok (c :: r)
        rw [ho] at hok
        have h1 : 1 ≤ w ∧ w ≤ (c :: r).length ∧ s.length ≤ w := hok
        have ih := scanF_len n f ((c :: r).drop w) (out ++ [⟨k, m, ofL s, n - (r.length + 1)⟩])
        rw [List.length_append, List.length_drop] at ih
        simp only [List.length_cons, List.length_nil] at ih h1 hb ⊢
        omega

theorem scanR_len (t : ByteArray) : (scanR t).toks.length ≤ 4000 := by
  rw [scanR]
  split
  · simp
  · have := scanF_len t.size (t.size + 1) (toL t) []
    rw [toL_size] at this
    simp at this
    omega

theorem OwnT.mono {w : World} {lo lo' hi n c : Nat} {a : Option Addr} {T : List Tok} (h : OwnT w lo hi a n c T) (hlo : lo' ≤ lo) : OwnT w lo' hi a n c T :=
  ⟨h.own.mono hlo, h.lt, h.sizes, h.top⟩

theorem Row.touch' {w w' : World} {b lo hi : Nat} {cs : Array Value} {t : TypeId} (h : Row w b cs t) (T : Touch lo hi w w') (hd : b < lo ∨ hi ≤ b) : Row w' b cs t := ⟨(T.block b h.lt hd).trans h.out⟩

set_option maxRecDepth 100000 in
set_option maxHeartbeats 6400000 in
theorem fnExactScan_walk (t : ByteArray) (w : World) (S : Snt w aS aB aT) (htt : t.size ≤ maxLen) :
    Calls Tryd.prog 3 #[.string t] w fun e w' => e = .returned (.bool true) ∧ Below w.heap.size w w' := by
  unfold maxLen at htt
  by_cases hl : 1048576 < t.size
  · have il : (1048576 : Int) < (t.size : Int) := by omega
    go_enter Tryd.func3, Tryd.ntmps3
    go_wp2_with fail
    go_ret
    exact ⟨rfl, Below.refl _ _⟩
  have il : ¬ ((1048576 : Int) < (t.size : Int)) := by omega
  have ht : t.size ≤ 1048576 := by omega
  clear hl
  have hn := scanR_len t
  have HS := hide S
  go_enter Tryd.func3, Tryd.ntmps3
  go_wp2_with fail
  refine (sScan_any t _ ht).mono ?_
  rintro e w1 ⟨x, cx, rfl, ho1, hok, B1⟩
  have Hok := hide hok
  have HI : ∀ W, Below w.heap.size w W → Calls Tryd.prog 7 #[.string t] W fun e w' => ScAns W (scanR t) e w' := fun W hW => iScan_any t W ht ((unhide HS).below hW (Nat.le_refl _))
  have HI := hide HI
  clear hok S HS
  generalize scanR t = R at *
  obtain ⟨T, C, A⟩ := R
  simp only at hn ho1 ⊢
  have OW := OwnT.of ho1 (unhide Hok)
  clear ho1
  have B2 := B1.alloc B1.size (.cells #[.int .i64 C, .int .i64 (A : Int)] 24)
  have B12 := (Below.refl w1.heap.size w1).alloc (Nat.le_refl _) (.cells #[.int .i64 C, .int .i64 (A : Int)] 24)
  have RW := Row.new w1 #[.int .i64 C, .int .i64 (A : Int)] 24
  have OW := OW.below B12 (Nat.le_refl _)
  have z12 : (w1.alloc (.cells #[.int .i64 C, .int .i64 (A : Int)] 24)).heap.size = w1.heap.size + 1 := by simp
  go_wp2_with fail
  generalize w1.alloc (.cells #[.int .i64 C, .int .i64 (A : Int)] 24) = w2 at B2 B12 RW OW z12 ⊢
  refine (unhide HI w2 B2).mono ?_
  rintro e w3 ⟨y, cy, rfl, ho3, _, hb3⟩
  simp only at ho3 ⊢
  have OG := OwnT.of ho3 (unhide Hok)
  have OW := OW.below hb3 (by have := OW.top; omega)
  have RW := RW.after hb3 (Nat.le_refl _)
  have B3 := B2.trans (hb3.mono B2.size)
  have z23 := hb3.size
  clear ho3 hb3 B2 B12
  have B4 := B3.alloc B3.size (.cells #[.int .i64 C, .int .i64 (A : Int)] 24)
  have B34 := (Below.refl w3.heap.size w3).alloc (Nat.le_refl _) (.cells #[.int .i64 C, .int .i64 (A : Int)] 24)
  have RW := RW.alloc (.cells #[.int .i64 C, .int .i64 (A : Int)] 24)
  have RG := Row.new w3 #[.int .i64 C, .int .i64 (A : Int)] 24
  have OW := OW.below B34 (by have := OW.top; omega)
  have OG := OG.below B34 (Nat.le_refl _)
  have z34 : (w3.alloc (.cells #[.int .i64 C, .int .i64 (A : Int)] 24)).heap.size = w3.heap.size + 1 := by simp
  have c0 : _ = some (Value.int .i64 C) := RW.cell 0
  have c1 : _ = some (Value.int .i64 (A : Int)) := RW.cell 1
  have d0 : _ = some (Value.int .i64 C) := RG.cell 0
  have d1 : _ = some (Value.int .i64 (A : Int)) := RG.cell 1
  go_wp2_with fail
  generalize w3.alloc (.cells #[.int .i64 C, .int .i64 (A : Int)] 24) = w4 at B4 B34 RW RG OW OG z34 c0 c1 d0 d1 ⊢
  refine (eqTokenS_same _ _ _ _ _ _ _ _ _ _ _ OG OW).mono ?_
  rintro e w5 ⟨rfl, hb5⟩
  have B5 := B4.trans (hb5.mono B4.size)
  have RW := RW.after hb5 (Nat.le_refl _)
  have RG := RG.after hb5 (Nat.le_refl _)
  have OW := OW.below hb5 (by have := OW.top; omega)
  have OG := OG.below hb5 (by have := OG.top; omega)
  have z45 := hb5.size
  have q1 := B1.size
  clear hb5 B4 B34 B3 c0 c1 d0 d1
  have c0 : _ = some (Value.int .i64 C) := RW.cell 0
  have c1 : _ = some (Value.int .i64 (A : Int)) := RW.cell 1
  have d0 : _ = some (Value.int .i64 C) := RG.cell 0
  have d1 : _ = some (Value.int .i64 (A : Int)) := RG.cell 1
  go_wp2_with fail
  refine (eqFault_same _ _ _).mono ?_
  rintro e w6 ⟨rfl, hb6⟩
  have B6 := B5.trans (hb6.mono B5.size)
  have RW := RW.after hb6 (Nat.le_refl _)
  have OW := OW.below hb6 (by have := OW.top; omega)
  have OG := OG.below hb6 (by have := OG.top; omega)
  have z56 := hb6.size
  clear hb6 B5 RG c0 c1 d0 d1
  go_wp2_with fail
  refine (markTokenS_any _ _ _ _ _ _ 1 _ OG (by omega)).mono ?_
  rintro e w7 ⟨rfl, OM, T7⟩
  have B7 := below_touch B6 T7 (by omega) B6.size
  have RW := RW.touch' T7 (by omega)
  have OW := OW.touch T7 (by omega)
  have z67 := T7.size
  clear OG B6 T7
  go_wp2_with fail
  refine (heldTokenS_any _ _ _ _ _ 1 _ OM (by omega)).mono ?_
  rintro e w8 ⟨rfl, hb8⟩
  have B8 := B7.trans (hb8.mono B7.size)
  have RW := RW.after hb8 (Nat.le_refl _)
  have OW := OW.below hb8 (by have := OW.top; omega)
  have OM := OM.below hb8 (by have := OM.top; omega)
  have z78 := hb8.size
  have hq : ¬ (((1 + 4 * T.length : Nat) : Int) < 0) := by omega
  clear B7 hb8
  go_wp2_with fail
  refine (unhide HI w8 B8).mono ?_
  rintro e w9 ⟨y2, cy2, rfl, ho9, _, hb9⟩
  simp only at ho9 ⊢
  have OH := OwnT.of ho9 (unhide Hok)
  have OW := OW.below hb9 (by have := OW.top; omega)
  have OM := OM.below hb9 (by have := OM.top; omega)
  have RW := RW.after hb9 (Nat.le_refl _)
  have B9 := B8.trans (hb9.mono B8.size)
  have z89 := hb9.size
  clear ho9 hb9 B8
  have B10 := B9.alloc B9.size (.cells #[.int .i64 C, .int .i64 (A : Int)] 24)
  have B910 := (Below.refl w9.heap.size w9).alloc (Nat.le_refl _) (.cells #[.int .i64 C, .int .i64 (A : Int)] 24)
  have RW := RW.alloc (.cells #[.int .i64 C, .int .i64 (A : Int)] 24)
  have RH := Row.new w9 #[.int .i64 C, .int .i64 (A : Int)] 24
  have OW := OW.below B910 (by have := OW.top; omega)
  have OM := OM.below B910 (by have := OM.top; omega)
  have OH := OH.below B910 (Nat.le_refl _)
  have z910 : (w9.alloc (.cells #[.int .i64 C, .int .i64 (A : Int)] 24)).heap.size = w9.heap.size + 1 := by simp
  have c0 : _ = some (Value.int .i64 C) := RW.cell 0
  have c1 : _ = some (Value.int .i64 (A : Int)) := RW.cell 1
  have d0 : _ = some (Value.int .i64 C) := RH.cell 0
  have d1 : _ = some (Value.int .i64 (A : Int)) := RH.cell 1
  go_wp2_with fail
  generalize w9.alloc (.cells #[.int .i64 C, .int .i64 (A : Int)] 24) = w10 at B10 B910 RW RH OW OM OH z910 c0 c1 d0 d1 ⊢
  refine (eqTokenS_same _ _ _ _ _ _ _ _ _ _ _ OH OW).mono ?_
  rintro e w11 ⟨rfl, hb11⟩
  have B11 := B10.trans (hb11.mono B10.size)
  have RW := RW.after hb11 (Nat.le_refl _)
  have RH := RH.after hb11 (Nat.le_refl _)
  have OM := OM.below hb11 (by have := OM.top; omega)
  have z1011 := hb11.size
  clear hb11 B10 B910 B9 OH OW c0 c1 d0 d1
  have c0 : _ = some (Value.int .i64 C) := RW.cell 0
  have c1 : _ = some (Value.int .i64 (A : Int)) := RW.cell 1
  have d0 : _ = some (Value.int .i64 C) := RH.cell 0
  have d1 : _ = some (Value.int .i64 (A : Int)) := RH.cell 1
  go_wp2_with fail
  refine (eqFault_same _ _ _).mono ?_
  rintro e w12 ⟨rfl, hb12⟩
  have B12 := B11.trans (hb12.mono B11.size)
  have OM := OM.below hb12 (by have := OM.top; omega)
  clear hb12 B11 RW RH c0 c1 d0 d1
  go_wp2_with fail
  refine (heldTokenS_any _ _ _ _ _ 1 _ OM (by omega)).mono ?_
  rintro e w13 ⟨rfl, hb13⟩
  have B13 := B12.trans (hb13.mono B12.size)
  clear B12 hb13 OM
  go_wp2_with fail
  go_ret
  exact ⟨rfl, B13⟩

end Go.Proofs.YthndlhlafkldjacDoor

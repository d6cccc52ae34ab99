/-
  VPG, VPH, QE0. Own work.
-/
import Derived.Test.YtpbopjgmiaoomaaGreatDoorMXAH
import Derived.Test.YtpbopjgmiaoomaaGreatDoorMXAD
namespace Go.Proofs.YtpbopjgmiaoomaaGreatDoor
open Go.RowKit
set_option linter.unusedVariables false

theorem infoI : (Tryz.prog.info? 3).map (fun i => (i.zero, i.size, i.bytes)) = some (some (.int .i64 0), 1, 8) := by kernel_rfl

def intsV (L : List Int) : List Value := L.map (Value.int .i64)

theorem one_cell (w : World) (v : Value) (t : TypeId) (b : Nat) (hb : b = w.heap.size) : ∀ j u, ([v] : List Value)[j]? = some u → (w.alloc (.cells #[v] t)).cell? ((⟨b, 0, none⟩ : Addr).add j) = some u := fun j u h => by
  subst hb
  have hj : j = 0 := by
    have := (List.getElem?_eq_some_iff.1 h).1
    simp at this
    exact this
  subst hj
  rw [← h]
  simp [Addr.add]

theorem asked_succ (L : List St) (k : Nat) (h : k < L.length) : (L.take (k + 1)).flatMap askedOf = (L.take k).flatMap askedOf ++ askedOf L[k] := by
  rw [List.take_succ_eq_append_getElem h, List.flatMap_append]
  simp

theorem asked_len : ∀ (L : List St), (L.flatMap askedOf).length ≤ 2 * L.length
  | [] => by simp
  | s :: r => by
    have := asked_len r
    have h1 : (askedOf s).length ≤ 2 := by unfold askedOf; split <;> split <;> simp
    rw [List.flatMap_cons, List.length_append, List.length_cons]
    omega

theorem Row.grown {w w' : World} {b : Nat} {cs : Array Value} {t : TypeId} {row : Option Nat} (h : Row w b cs t) (hg : w.grownBy w' row) (hne : some b = row → False) : Row w' b cs t := ⟨(hg.block b h.lt hne).trans h.out⟩

set_option maxRecDepth 100000 in
set_option maxHeartbeats 3200000 in
theorem topsAsked_any (a : Option Addr) (n c : Nat) (L : List St) (w : World) (h : Sts w a n c L) :
    Calls Tryz.prog 80 #[.slice a n c] w fun e w' => ∃ v, e = .returned v ∧ w'.ownsRow w.heap.size 3 1 v (L.flatMap askedOf).length (intsV (L.flatMap askedOf)) ∧ Below w.heap.size w w' := by
  have hn := h.small
  have hl := h.len
  have HL := hide hl
  clear hl
  obtain ⟨i, hi, hz0, hz1, hz2⟩ := info_parts infoI
  go_enter Tryz.func80, Tryz.ntmps80
  go_wp2_with fail
  go_loopw [3, 8] (fun v i wr => ∃ k : Nat, k ≤ n ∧ i = .int .i64 k ∧ wr.ownsRow w.heap.size 3 1 v ((L.take k).flatMap askedOf).length (intsV ((L.take k).flatMap askedOf)) ∧ Below w.heap.size w wr) (fun _ i _ => n - (intOf i).toNat)
  case atStart => exact ⟨0, Nat.zero_le _, rfl, World.ownsRow_nil _ _ _ _, Below.refl _ _⟩
  case round =>
    obtain ⟨k, hk, rfl, O1, B1⟩ := hrel
    by_cases hlt : k < n
    · have ilt : (k : Int) < (n : Int) := by omega
      have hkl : k < L.length := by rw [unhide HL]; exact hlt
      obtain ⟨b, off, rfl, hb, c0, c1, c2, c3⟩ := (h.below B1 (Nat.le_refl _)).cells k hkl
      have HT := hide (asked_succ L k hkl)
      have hln := asked_len (L.take k)
      rw [List.length_take] at hln
      have Hlt := hide hlt
      generalize L[k] = s at c0 c1 c2 c3 HT
      generalize (L.take k).flatMap askedOf = A at O1 hln HT
      have hA : A.length ≤ 2 * 1048576 := by omega
      have R2 := Row.new wr #[.int .i64 s.kind, .string s.name, .int .i64 s.cond, .int .i64 s.grant] 49
      have B2 := B1.alloc B1.size (.cells #[.int .i64 s.kind, .string s.name, .int .i64 s.cond, .int .i64 s.grant] 49)
      have O2 := O1.alloc (.cells #[.int .i64 s.kind, .string s.name, .int .i64 s.cond, .int .i64 s.grant] 49)
      have z2 : (wr.alloc (.cells #[.int .i64 s.kind, .string s.name, .int .i64 s.cond, .int .i64 s.grant] 49)).heap.size = wr.heap.size + 1 := by simp
      have zb := B1.size
      clear hln
      by_cases k3 : s.kind = 3
      · have e3 : (s.kind != 3) = false := by rw [k3]; rfl
        by_cases kg : s.grant = -1
        · have eg : (s.grant != -1) = false := by rw [kg]; rfl
          have HA := hide (show askedOf s = [] by rw [askedOf, if_neg (by omega), if_neg (by omega)]; rfl)
          clear k3 kg
          go_wp2_with fail
          go_roundw
          case rel => exact ⟨k + 1, unhide Hlt, by go_num, by rw [unhide HT, unhide HA, List.append_nil]; exact O2, B2⟩
          case measure => have := unhide Hlt; simp [intOf]; omega
        · have eg : (s.grant != -1) = true := bne_iff_ne.2 kg
          have HA := hide (show askedOf s = [s.grant] by rw [askedOf, if_neg (by omega), if_pos kg]; rfl)
          clear k3 kg
          go_wp2_with (at_builtin; refine wpList_append_own _ rfl _ _ 24 rfl w.heap.size 3 i (.int .i64 0) 1 8 Tryz.underlying24 hi hz0 hz1 hz2 rfl (by decide) _ _ _ rfl (World.ownsRow.alloc O2 _) ⟨wr.heap.size + 1, 0, none⟩ 1 1 [.int .i64 s.grant] rfl rfl ?c1 ?c2 ?c3 ?c4 ?c5 ?_)
          case c1 => exact one_cell _ _ _ _ (by simp)
          case c2 => intro u hu; simp at hu; subst hu; rfl
          case c3 => skip; unfold maxLen; omega
          case c4 => skip; omega
          case c5 => simp; omega
          intro v' w3 O3 hgrow _
          have B3 := (B2.alloc (by omega) (.cells #[.int .i64 s.grant] 3)).grown hgrow (by simp; omega) (fun q hq => (O2.lt q hq).1)
          skip
          clear hgrow
          go_wp2_with fail
          go_roundw
          case rel => exact ⟨k + 1, unhide Hlt, by go_num, by rw [unhide HT, unhide HA, intsV, List.map_append, List.length_append]; exact O3, B3⟩
          case measure => have := unhide Hlt; simp [intOf]; omega
      · have e3 : (s.kind != 3) = true := bne_iff_ne.2 k3
        by_cases kg : s.grant = -1
        · have eg : (s.grant != -1) = false := by rw [kg]; rfl
          have HA := hide (show askedOf s = [s.cond] by rw [askedOf, if_pos k3, if_neg (by omega)]; rfl)
          clear k3 kg
          go_wp2_with (at_builtin; refine wpList_append_own _ rfl _ _ 24 rfl w.heap.size 3 i (.int .i64 0) 1 8 Tryz.underlying24 hi hz0 hz1 hz2 rfl (by decide) _ _ _ rfl (World.ownsRow.alloc O2 _) ⟨wr.heap.size + 1, 0, none⟩ 1 1 [.int .i64 s.cond] rfl rfl ?c1 ?c2 ?c3 ?c4 ?c5 ?_)
          case c1 => exact one_cell _ _ _ _ (by simp)
          case c2 => intro u hu; simp at hu; subst hu; rfl
          case c3 => skip; unfold maxLen; omega
          case c4 => skip; omega
          case c5 => simp; omega
          intro v' w3 O3 hgrow _
          have B3 := (B2.alloc (by omega) (.cells #[.int .i64 s.cond] 3)).grown hgrow (by simp; omega) (fun q hq => (O2.lt q hq).1)
          have R3 := (R2.alloc (.cells #[.int .i64 s.cond] 3)).grown hgrow (fun e => by have := (O1.lt _ e.symm).2; omega)
          have zw := B3.size
          obtain ⟨q0, q1, q2, q3, qf⟩ := row4' R3
          clear hgrow
          go_wp2_with fail
          go_roundw
          case rel => exact ⟨k + 1, unhide Hlt, by go_num, by rw [unhide HT, unhide HA, intsV, List.map_append, List.length_append]; exact O3, B3⟩
          case measure => have := unhide Hlt; simp [intOf]; omega
        · have eg : (s.grant != -1) = true := bne_iff_ne.2 kg
          have HA := hide (show askedOf s = [s.cond, s.grant] by rw [askedOf, if_pos k3, if_pos kg]; rfl)
          clear k3 kg
          go_wp2_with (at_builtin; refine wpList_append_own _ rfl _ _ 24 rfl w.heap.size 3 i (.int .i64 0) 1 8 Tryz.underlying24 hi hz0 hz1 hz2 rfl (by decide) _ _ _ rfl (World.ownsRow.alloc O2 _) ⟨wr.heap.size + 1, 0, none⟩ 1 1 [.int .i64 s.cond] rfl rfl ?c1 ?c2 ?c3 ?c4 ?c5 ?_)
          case c1 => exact one_cell _ _ _ _ (by simp)
          case c2 => intro u hu; simp at hu; subst hu; rfl
          case c3 => skip; unfold maxLen; omega
          case c4 => skip; omega
          case c5 => simp; omega
          intro v' w3 O3 hgrow _
          have B3 := (B2.alloc (by omega) (.cells #[.int .i64 s.cond] 3)).grown hgrow (by simp; omega) (fun q hq => (O2.lt q hq).1)
          have R3 := (R2.alloc (.cells #[.int .i64 s.cond] 3)).grown hgrow (fun e => by have := (O1.lt _ e.symm).2; omega)
          have zw := B3.size
          obtain ⟨q0, q1, q2, q3, qf⟩ := row4' R3
          obtain ⟨x3, cx3, hv3⟩ := owns_form O3
          subst hv3
          clear hgrow
          go_wp2_with (at_builtin; refine wpList_append_own _ rfl _ _ 24 rfl w.heap.size 3 i (.int .i64 0) 1 8 Tryz.underlying24 hi hz0 hz1 hz2 rfl (by decide) _ _ _ rfl (World.ownsRow.alloc O3 _) ⟨w3.heap.size, 0, none⟩ 1 1 [.int .i64 s.grant] rfl rfl ?c1 ?c2 ?c3 ?c4 ?c5 ?_)
          case c1 => exact one_cell _ _ _ _ (by simp)
          case c2 => intro u hu; simp at hu; subst hu; rfl
          case c3 => skip; unfold maxLen; omega
          case c4 => skip; omega
          case c5 => simp; omega
          intro v'' w4 O4 hgrow _
          have B4 := (B3.alloc (by omega) (.cells #[.int .i64 s.grant] 3)).grown hgrow (by simp; omega) (fun q hq => (O3.lt q hq).1)
          skip
          clear hgrow
          go_wp2_with fail
          go_roundw
          case rel => exact ⟨k + 1, unhide Hlt, by go_num, by rw [unhide HT, unhide HA, intsV, List.map_append, List.length_append]; simpa [intsV] using O4, B4⟩
          case measure => have := unhide Hlt; simp [intOf]; omega
    · have e : k = n := by omega
      subst e
      have e2 : L.take k = L := List.take_of_length_le (by rw [unhide HL]; exact Nat.le_refl _)
      rw [e2] at O1
      obtain ⟨x, cx, hv⟩ := owns_form O1
      subst hv
      go_wp2
      go_ret
      exact ⟨_, rfl, O1, B1⟩

end Go.Proofs.YtpbopjgmiaoomaaGreatDoor

namespace Go.Proofs.YtpbopjgmiaoomaaGreatDoor
open Go.RowKit
set_option linter.unusedVariables false

/-- One node, at a place. -/
def NdAt (w : World) (b o : Nat) (x : Nd) : Prop := ∃ an nn cn ak nk ck, w.cell? ⟨b, o, none⟩ = some (.int .i64 x.op) ∧ w.cell? ⟨b, o + 1, none⟩ = some (.int .i64 x.num) ∧ w.cell? ⟨b, o + 2, none⟩ = some (.string x.text) ∧ w.cell? ⟨b, o + 3, none⟩ = some (.slice an nn cn) ∧ w.cell? ⟨b, o + 4, none⟩ = some (.slice ak nk ck) ∧ Strs w an nn cn x.names ∧ Ints w ak nk ck x.kids

/-- A slice of nodes. -/
structure Nds (w : World) (a : Option Addr) (n c : Nat) (L : List Nd) : Prop where
  len : L.length = n
  small : n ≤ 1048576
  sizes : ∀ x ∈ L, x.text.size ≤ 1048576
  cells : ∀ j, (h : j < L.length) → ∃ b off, a = some ⟨b, off, none⟩ ∧ b < w.heap.size ∧ NdAt w b (off + j * 5) L[j]

theorem NdAt.below {w w' : World} {B b o : Nat} {x : Nd} (h : NdAt w b o x) (hl : b < w.heap.size) (hb : Below B w w') (hB : w.heap.size ≤ B) : NdAt w' b o x := by
  obtain ⟨an, nn, cn, ak, nk, ck, c0, c1, c2, c3, c4, hN, hK⟩ := h
  have hl' : b < B := by omega
  exact ⟨an, nn, cn, ak, nk, ck, (hb.cell (p := ⟨b, o, none⟩) hl').trans c0, (hb.cell (p := ⟨b, o + 1, none⟩) hl').trans c1, (hb.cell (p := ⟨b, o + 2, none⟩) hl').trans c2, (hb.cell (p := ⟨b, o + 3, none⟩) hl').trans c3, (hb.cell (p := ⟨b, o + 4, none⟩) hl').trans c4, hN.below hb hB, hK.below hb hB⟩

theorem Nds.below {w w' : World} {B : Nat} {a : Option Addr} {n c : Nat} {L : List Nd} (h : Nds w a n c L) (hb : Below B w w') (hB : w.heap.size ≤ B) : Nds w' a n c L :=
  ⟨h.len, h.small, h.sizes, fun j hj => by
    obtain ⟨b, off, ha, hl, hc⟩ := h.cells j hj
    exact ⟨b, off, ha, Nat.lt_of_lt_of_le hl hb.size, hc.below hl hb hB⟩⟩

/-- The table of operators lies where it is laid. -/
structure TabOK (w : World) : Prop where
  lt : 3 < w.heap.size
  cells : ∀ k, w.cell? ⟨3, k, none⟩ = binV[k]?

theorem TabOK.below {w w' : World} {B : Nat} (h : TabOK w) (hb : Below B w w') (hB : w.heap.size ≤ B) : TabOK w' :=
  ⟨Nat.lt_of_lt_of_le h.lt hb.size, fun k => (hb.cell (p := ⟨3, k, none⟩) (Nat.lt_of_lt_of_le h.lt hB)).trans (h.cells k)⟩

theorem nd_all {w1 w' : World} {b : Nat} {op num : Int} {text : ByteArray} {an ak : Option Addr} {nn cn nk ck : Nat} {t : TypeId} (R : Row w1 b #[.int .i64 op, .int .i64 num, .string text, .slice an nn cn, .slice ak nk ck] t) (hb : Below w1.heap.size w1 w') :
    w'.cell? ⟨b, 0, none⟩ = some (.int .i64 op) ∧ w'.cell? ⟨b, 1, none⟩ = some (.int .i64 num) ∧ w'.cell? ⟨b, 2, none⟩ = some (.string text) ∧ w'.cell? ⟨b, 3, none⟩ = some (.slice an nn cn) ∧ w'.cell? ⟨b, 4, none⟩ = some (.slice ak nk ck) := by
  obtain ⟨c0, c1, c2, c3, c4, _⟩ := row5 (R.after hb (Nat.le_refl _))
  exact ⟨c0, c1, c2, c3, c4⟩

end Go.Proofs.YtpbopjgmiaoomaaGreatDoor

namespace Go.Proofs.YtpbopjgmiaoomaaGreatDoor
open Go.RowKit
set_option linter.unusedVariables false

theorem Ex.form (e : Ex) : ∃ t u, e.val = .iface t u := by cases e <;> exact ⟨_, _, rfl⟩

theorem ta_hit {T : TypeId} {fs : Array Field} (hu : Tryz.prog.underlying T = some (.struct fs)) (xT : TypeId) (v : Value) (w : World) : (Instr.typeAssert (.iface T v) xT T true).run Tryz.prog w = .ok (.tuple #[v, .bool true]) w := by simp [Instr.typeAssert, run_underlying hu]

theorem ta_miss {S T : TypeId} {fs : Array Field} {z : Value} (hu : Tryz.prog.underlying T = some (.struct fs)) (hz : ∀ w, (zeroValue T).run Tryz.prog w = .ok z w) (h : S ≠ T) (xT : TypeId) (v : Value) (w : World) : (Instr.typeAssert (.iface S v) xT T true).run Tryz.prog w = .ok (.tuple #[z, .bool false]) w := by simp [Instr.typeAssert, run_underlying hu, hz, h]

end Go.Proofs.YtpbopjgmiaoomaaGreatDoor

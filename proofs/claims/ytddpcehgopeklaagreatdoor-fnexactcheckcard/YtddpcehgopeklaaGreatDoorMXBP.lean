/-
  MemS, APS, EDI, EDJ, MKN, VPU1, VPW1, QV. Own work.
-/
import Derived.Test.YtddpcehgopeklaaGreatDoorMXAE
import Derived.Test.YtddpcehgopeklaaGreatDoorMXAD
import Derived.Test.YtddpcehgopeklaaGreatDoorMXAM
import Derived.Laws.AppendOwnNone
import Derived.Test.YtddpcehgopeklaaGreatDoorMXBI
import Derived.Test.YtddpcehgopeklaaGreatDoorMXAG
import Derived.Test.YtddpcehgopeklaaGreatDoorMXBF
import Derived.Test.YtddpcehgopeklaaGreatDoorMXBQ
import Derived.Test.YtddpcehgopeklaaGreatDoorVPL
import Derived.Test.YtddpcehgopeklaaGreatDoorMXBE
import Derived.Test.YtddpcehgopeklaaGreatDoorMXAI
import Derived.Test.YtddpcehgopeklaaGreatDoorMXAV
import Derived.Deep.Slices
import Derived.OpenShut
namespace Go.Proofs.YtddpcehgopeklaaGreatDoor
open Go.RowKit
set_option linter.unusedVariables false

theorem Strs.news {w : World} {b off n c : Nat} {ss : List ByteArray} (hq : Strs w (some ⟨b, off, none⟩) n c ss) : ∀ j u, (ss.map Value.string)[j]? = some u → w.cell? ((⟨b, off, none⟩ : Addr).add j) = some u := fun j u hu => by
  rw [List.getElem?_map, Option.map_eq_some_iff] at hu
  obtain ⟨s, hs, rfl⟩ := hu
  have hj : j < ss.length := (List.getElem?_eq_some_iff.1 hs).1
  obtain ⟨b1, off1, ha, _, hc⟩ := hq.cells j (by have := hq.len; omega)
  simp only [Option.some.injEq, Addr.mk.injEq, and_true] at ha
  obtain ⟨rfl, rfl⟩ := ha
  have hadd : (⟨b, off, none⟩ : Addr).add j = ⟨b, off + j, none⟩ := by by_cases e : j = 0 <;> simp [Addr.add, e]
  rw [hadd, hc, nth_eq _ j hj]
  rw [List.getElem?_eq_getElem hj] at hs
  cases hs; rfl

end Go.Proofs.YtddpcehgopeklaaGreatDoor

namespace Go.Proofs.YtddpcehgopeklaaGreatDoor
open Go.RowKit
set_option linter.unusedVariables false

theorem Strs.newsG {w : World} {ad : Addr} {n c : Nat} {ss : List ByteArray} (hq : Strs w (some ad) n c ss) : ∀ j u, (ss.map Value.string)[j]? = some u → w.cell? (ad.add j) = some u := fun j u hu => by
  have hj : j < ss.length := by
    have := (List.getElem?_eq_some_iff.1 hu).1
    simpa using this
  obtain ⟨b1, off1, ha, _, _⟩ := hq.cells j (by have := hq.len; omega)
  cases ha
  exact Strs.news hq j u hu

end Go.Proofs.YtddpcehgopeklaaGreatDoor

namespace Go.Proofs.YtddpcehgopeklaaGreatDoor
open Go.RowKit
set_option linter.unusedVariables false

theorem wpList_append_own_noneC {P : Program} {w : World} {ops : Array Oper} {rest : List Oper} {o : Oper} {a : Act} {Q : Exit → Act → World → Prop} (hgd : o.guard = none) (s x : Operand) (t : TypeId)
    (ho : o.op = .call { callee := .builtin .append, args := #[s, x], argTypes := #[t, t] })
    (base : Nat) (e : TypeId) (i : TypeInfo) (size c : Nat) (ht : P.underlying t = some (.slice e)) (hi : P.info? e = some i)
    (v : Value) (n : Nat) (xs : List Value) (hs : a.eval s = v) (hown : w.ownsRow base e size v n xs) (hx : a.eval x = .slice none 0 c)
    (h : wpList P ops Q rest (a.put o.dst v) w) : wpList P ops Q (o :: rest) a w := by
  refine wpList_plain hgd fun K hK => ?_
  have hrun : (Builtin.append_ #[t, t] o.type #[v, .slice none 0 c]).run P w = .ok v w := by
    rcases hown.2 with ⟨rfl, rfl⟩ | ⟨g, cap, cur, rfl, _, _, hnc, _⟩
    · simp [Builtin.append_, run_underlying ht, sizeOf, typeInfo, hi, Builtin.lenOf, Builtin.firstCells]
    · simp [Builtin.append_, run_underlying ht, sizeOf, typeInfo, hi, Builtin.lenOf, Builtin.firstCells, hnc, storeCells]
  unfold Oper.wp
  simp [execOp, ho, resolve, invoke, builtin, hs, hx, hrun, Result.andThen]
  exact hK _ _ h

set_option maxRecDepth 100000 in
theorem wpList_append_strsC {ops : Array Oper} {rest : List Oper} {o : Oper} {act : Act} {Q : Exit → Act → World → Prop} {w : World} (hgd : o.guard = none) (s x : Operand) (ho : o.op = .call { callee := .builtin .append, args := #[s, x], argTypes := #[51, 51] }) (base : Nat) (v : Value) (k : Nat) (xs : List Value) (hs : act.eval s = v) (hown : w.ownsRow base 9 1 v k xs) (a : Option Addr) (n c : Nat) (ss : List ByteArray) (hx : act.eval x = .slice a n c) (h : Strs w a n c ss) (hk : k + n ≤ 1048576) (hb : base ≤ w.heap.size)
    (hK : ∀ v' w', w'.ownsRow base 9 1 v' (k + n) (xs ++ ss.map Value.string) → Below base w w' → wpList Tryz.prog ops Q rest (act.put o.dst v') w') : wpList Tryz.prog ops Q (o :: rest) act w := by
  obtain ⟨i, hi, hz0, hz1, hz2⟩ := info_parts infoS
  cases a with
  | none =>
    have h0 : n = 0 := by
      rcases Nat.eq_zero_or_pos n with q | q
      · exact q
      · obtain ⟨b9, o9, e9, _⟩ := h.cells 0 q; cases e9
    subst h0
    obtain rfl : ss = [] := List.eq_nil_of_length_eq_zero h.len.symm
    exact wpList_append_own_noneC hgd s x 51 ho base 9 i 1 c Tryz.underlying51 hi v k xs hs hown hx (hK v w (by simpa using hown) (Below.refl _ _))
  | some ad =>
    refine wpList_append_own w hgd s x 51 ho base 9 i (.string ByteArray.empty) 1 16 Tryz.underlying51 hi hz0 hz1 hz2 rfl (by decide) v k xs hs hown ad n c (ss.map Value.string) hx ?_ (Strs.newsG h) ?_ ?_ ?_ hb ?_
    · rw [List.length_map, h.len]; omega
    · intro u hu; obtain ⟨s, _, rfl⟩ := List.mem_map.1 hu; rfl
    · unfold maxLen; omega
    · omega
    · intro v' w' hown' hgrow _
      exact hK v' w' hown' ((Below.refl _ _).grown hgrow hb (fun q hq => (hown.lt q hq).1))

theorem add_at (b off j : Nat) : (⟨b, off, none⟩ : Addr).add j = ⟨b, off + j, none⟩ := by
  by_cases e : j = 0 <;> simp [Addr.add, e]

set_option maxRecDepth 100000 in
theorem wpList_append_intsC {ops : Array Oper} {rest : List Oper} {o : Oper} {act : Act} {Q : Exit → Act → World → Prop} {w : World} (hgd : o.guard = none) (s x : Operand) (ho : o.op = .call { callee := .builtin .append, args := #[s, x], argTypes := #[29, 29] }) (base : Nat) (v : Value) (k : Nat) (xs : List Value) (hs : act.eval s = v) (hown : w.ownsRow base 3 1 v k xs) (a : Option Addr) (n c : Nat) (ss : List Int) (hx : act.eval x = .slice a n c) (h : Ints w a n c ss) (hk : k + n ≤ 1048576) (hb : base ≤ w.heap.size)
    (hK : ∀ v' w', w'.ownsRow base 3 1 v' (k + n) (xs ++ intsV ss) → Below base w w' → wpList Tryz.prog ops Q rest (act.put o.dst v') w') : wpList Tryz.prog ops Q (o :: rest) act w := by
  obtain ⟨i, hi, hz0, hz1, hz2⟩ := info_parts infoI
  have hl := h.len
  cases a with
  | none =>
    have h0 : n = 0 := by
      rcases Nat.eq_zero_or_pos n with q | q
      · exact q
      · obtain ⟨b9, o9, e9, _⟩ := h.cells 0 (by omega); cases e9
    subst h0
    obtain rfl : ss = [] := List.eq_nil_of_length_eq_zero hl
    exact wpList_append_own_noneC hgd s x 29 ho base 3 i 1 c Tryz.underlying29 hi v k xs hs hown hx (hK v w (by simpa [intsV] using hown) (Below.refl _ _))
  | some ad =>
    refine wpList_append_own w hgd s x 29 ho base 3 i (.int .i64 0) 1 8 Tryz.underlying29 hi hz0 hz1 hz2 rfl (by decide) v k xs hs hown ad n c (intsV ss) hx ?_ ?_ ?_ ?_ ?_ hb ?_
    · simp [intsV, hl]
    · intro j u hu
      have hj : j < ss.length := by
        have := (List.getElem?_eq_some_iff.1 hu).1
        simpa [intsV] using this
      obtain ⟨b9, o9, e9, _, c9⟩ := h.cells j hj
      cases e9
      rw [add_at, c9, ← hu]
      simp [intsV, hj]
    · intro u hu; obtain ⟨s, _, rfl⟩ := List.mem_map.1 hu; rfl
    · unfold maxLen; omega
    · omega
    · intro v' w' hown' hgrow _
      exact hK v' w' hown' ((Below.refl _ _).grown hgrow hb (fun q hq => (hown.lt q hq).1))

theorem infoSttI : (Tryz.prog.info? 77).map (fun i => (i.zero, i.size, i.bytes)) = some (some (.agg #[.int .i64 0, .string ByteArray.empty, .int .i64 0, .int .i64 0]), 4, 40) := by kernel_rfl

set_option maxRecDepth 100000 in
theorem wpList_append_stsC {ops : Array Oper} {rest : List Oper} {o : Oper} {act : Act} {Q : Exit → Act → World → Prop} {w : World} (hgd : o.guard = none) (s x : Operand) (ho : o.op = .call { callee := .builtin .append, args := #[s, x], argTypes := #[28, 28] }) (base : Nat) (v : Value) (k : Nat) (xs : List Value) (hs : act.eval s = v) (hown : w.ownsRow base 77 4 v k xs) (a : Option Addr) (n c : Nat) (L : List St) (hx : act.eval x = .slice a n c) (h : Sts w a n c L) (hk : k + n ≤ 65536) (hb : base ≤ w.heap.size)
    (hK : ∀ v' w', w'.ownsRow base 77 4 v' (k + n) (xs ++ stmC L) → Below base w w' → wpList Tryz.prog ops Q rest (act.put o.dst v') w') : wpList Tryz.prog ops Q (o :: rest) act w := by
  obtain ⟨i, hi, hz0, hz1, hz2⟩ := info_parts infoSttI
  have hl := h.len
  cases a with
  | none =>
    have h0 : n = 0 := by
      rcases Nat.eq_zero_or_pos n with q | q
      · exact q
      · obtain ⟨b9, o9, e9, _⟩ := h.cells 0 (by omega); cases e9
    subst h0
    obtain rfl : L = [] := List.eq_nil_of_length_eq_zero hl
    exact wpList_append_own_noneC hgd s x 28 ho base 77 i 4 c Tryz.underlying28 hi v k xs hs hown hx (hK v w (by simpa [stmC] using hown) (Below.refl _ _))
  | some ad =>
    refine wpList_append_own w hgd s x 28 ho base 77 i (.agg #[.int .i64 0, .string ByteArray.empty, .int .i64 0, .int .i64 0]) 4 40 Tryz.underlying28 hi hz0 hz1 hz2 rfl (by decide) v k xs hs hown ad n c (stmC L) hx ?_ ?_ ?_ ?_ ?_ hb ?_
    · rw [stmC_len, hl]
    · intro j u hu
      have hj : j < L.length * 4 := by
        have := (List.getElem?_eq_some_iff.1 hu).1
        rwa [stmC_len] at this
      have hq : j / 4 < L.length := by omega
      have e : j = (j / 4) * 4 + j % 4 := by omega
      have hr : j % 4 < 4 := by omega
      obtain ⟨b9, o9, e9, _, c0, c1, c2, c3⟩ := h.cells (j / 4) hq
      cases e9
      have hs := stmC_at L (j / 4) hq (j % 4) hr
      rw [← e, hu] at hs
      rw [add_at, show o9 + j = o9 + j / 4 * 4 + j % 4 by omega]
      have : j % 4 = 0 ∨ j % 4 = 1 ∨ j % 4 = 2 ∨ j % 4 = 3 := by omega
      rcases this with r | r | r | r <;> rw [r] at hs ⊢
      · rw [Nat.add_zero, c0, hs]; rfl
      · rw [c1, hs]; rfl
      · rw [c2, hs]; rfl
      · rw [c3, hs]; rfl
    · intro u hu
      obtain ⟨s, _, hu⟩ := List.mem_flatMap.1 hu
      simp at hu
      rcases hu with rfl | rfl | rfl | rfl <;> rfl
    · unfold maxLen; omega
    · omega
    · intro v' w' hown' hgrow _
      exact hK v' w' hown' ((Below.refl _ _).grown hgrow hb (fun q hq => (hown.lt q hq).1))

end Go.Proofs.YtddpcehgopeklaaGreatDoor

namespace Go.Proofs.YtddpcehgopeklaaGreatDoor
open Go.RowKit
set_option linter.unusedVariables false

/-- a node of the call's own -/
def NdK (x : Nd) (w : World) (r : Ending) (w' : World) : Prop := (∃ u cu k ck, r = .returned (.agg #[.int .i64 x.op, .int .i64 x.num, .string x.text, .slice u x.names.length cu, .slice k x.kids.length ck]) ∧ w'.ownsRow w.heap.size 9 1 (.slice u x.names.length cu) x.names.length (x.names.map Value.string) ∧ w'.ownsRow w.heap.size 3 1 (.slice k x.kids.length ck) x.kids.length (intsV x.kids)) ∧ Below w.heap.size w w'

theorem owns_lowJ {w : World} {B B' : Nat} {e : TypeId} {size n : Nat} {v : Value} {xs : List Value} (h : w.ownsRow B e size v n xs) (hB : B' ≤ B) : w.ownsRow B' e size v n xs := by
  refine ⟨h.1, ?_⟩
  rcases h.2 with q | ⟨g, cap, cur, h1, h2, h3⟩
  · exact .inl q
  · exact .inr ⟨g, cap, cur, h1, Nat.le_trans hB h2, h3⟩

set_option maxRecDepth 100000 in
set_option maxHeartbeats 3200000 in
theorem l3copy_raw (op nu : Int) (tx : ByteArray) (ns : List ByteArray) (ks : List Int) (an : Option Addr) (nn cn : Nat) (ak : Option Addr) (nk ck : Nat) (w : World) (hN : Strs w an nn cn ns) (hK : Ints w ak nk ck ks) (hs : nn ≤ 1048576) :
    Calls Tryz.prog 18 #[.agg #[.int .i64 op, .int .i64 nu, .string tx, .slice an nn cn, .slice ak nk ck]] w fun r w' => (∃ u cu k ck, r = .returned (.agg #[.int .i64 op, .int .i64 nu, .string tx, .slice u nn cu, .slice k nk ck]) ∧ w'.ownsRow w.heap.size 9 1 (.slice u nn cu) nn (ns.map Value.string) ∧ w'.ownsRow w.heap.size 3 1 (.slice k nk ck) nk (intsV ks)) ∧ Below w.heap.size w w' := by
  have hks := hK.small
  have R0 := ((Row.new w #[.int .i64 op, .int .i64 nu, .string tx, .slice an nn cn, .slice ak nk ck] 53).alloc (.cells #[.int .i64 0, .int .i64 0, .string ⟨#[]⟩, .slice none 0 0, .slice none 0 0] 53)).alloc (.cells #[.int .i64 op, .int .i64 nu, .string tx, .slice none 0 0, .slice none 0 0] 53)
  have Z0 := (Row.new (w.alloc (.cells #[.int .i64 op, .int .i64 nu, .string tx, .slice an nn cn, .slice ak nk ck] 53)) #[.int .i64 0, .int .i64 0, .string ⟨#[]⟩, .slice none 0 0, .slice none 0 0] 53).alloc (.cells #[.int .i64 op, .int .i64 nu, .string tx, .slice none 0 0, .slice none 0 0] 53)
  have M0 := Row.new ((w.alloc (.cells #[.int .i64 op, .int .i64 nu, .string tx, .slice an nn cn, .slice ak nk ck] 53)).alloc (.cells #[.int .i64 0, .int .i64 0, .string ⟨#[]⟩, .slice none 0 0, .slice none 0 0] 53)) #[.int .i64 op, .int .i64 nu, .string tx, .slice none 0 0, .slice none 0 0] 53
  have B0 := (((Below.refl w.heap.size w).alloc (Nat.le_refl _) (.cells #[.int .i64 op, .int .i64 nu, .string tx, .slice an nn cn, .slice ak nk ck] 53)).alloc (by simp) (.cells #[.int .i64 0, .int .i64 0, .string ⟨#[]⟩, .slice none 0 0, .slice none 0 0] 53)).alloc (by simp; omega) (.cells #[.int .i64 op, .int .i64 nu, .string tx, .slice none 0 0, .slice none 0 0] 53)
  simp only [World.size_alloc] at Z0 M0
  have W0E : ∃ W0, W0 = ((w.alloc (.cells #[.int .i64 op, .int .i64 nu, .string tx, .slice an nn cn, .slice ak nk ck] 53)).alloc (.cells #[.int .i64 0, .int .i64 0, .string ⟨#[]⟩, .slice none 0 0, .slice none 0 0] 53)).alloc (.cells #[.int .i64 op, .int .i64 nu, .string tx, .slice none 0 0, .slice none 0 0] 53) := ⟨_, rfl⟩
  have HS0 := hN.below B0 (Nat.le_refl _)
  have HIK := hide hK
  clear hN hK
  go_enter Tryz.func18, Tryz.ntmps18
  go_wp2_with (at_builtin; refine wpList_append_strsC rfl _ _ rfl _ _ 0 [] rfl (World.ownsRow_nil _ (w.heap.size + 1 + 1 + 1) _ _) an nn cn ns rfl HS0 (by omega) (by simp) ?_)
  intro v1 w1 O1 D1
  obtain ⟨W0, hW0⟩ := W0E
  have z0 : W0.heap.size = w.heap.size + 1 + 1 + 1 := by rw [hW0]; simp
  rw [← hW0] at R0 Z0 M0 B0 HS0 D1
  clear hW0
  have R1 := R0.below D1 (by omega)
  have Z1 := Z0.below D1 (by omega)
  have M1 := M0.below D1 (by omega)
  have B1 := B0.trans (D1.mono (by omega))
  clear R0 Z0 M0 B0 HS0
  obtain ⟨xu, cu, rfl, _⟩ := owns_form2 O1
  obtain ⟨m0, m1, m2, m3, m4⟩ := row5N M1
  have mf := fun k => M1.frozen k
  have zz : w.heap.size + 1 + 1 + 1 ≤ w1.heap.size := by have := D1.size; omega
  have M2 := M1.set 3 (.slice xu nn cu)
  have R2 := R1.setFar (p := ⟨w.heap.size + 1 + 1, 3, none⟩) (by show w.heap.size ≠ w.heap.size + 1 + 1; omega) (.slice xu nn cu)
  have Z2 := Z1.setFar (p := ⟨w.heap.size + 1 + 1, 3, none⟩) (by show w.heap.size + 1 ≠ w.heap.size + 1 + 1; omega) (.slice xu nn cu)
  have B2 := B1.setCell (p := ⟨w.heap.size + 1 + 1, 3, none⟩) (by show w.heap.size ≤ w.heap.size + 1 + 1; omega) (.slice xu nn cu)
  have O2 := own_set3 O1 ⟨w.heap.size + 1 + 1, 3, none⟩ (.slice xu nn cu) (fun q hq => by have := (O1.lt q hq).1; show q ≠ w.heap.size + 1 + 1; omega)
  have HI2 := (unhide HIK).below B2 (Nat.le_refl _)
  have r4 : (w1.setCell ⟨w.heap.size + 1 + 1, 3, none⟩ (.slice xu nn cu)).cell? ⟨w.heap.size, 4, none⟩ = some (.slice ak nk ck) := R2.cell 4
  have n4 : (w1.setCell ⟨w.heap.size + 1 + 1, 3, none⟩ (.slice xu nn cu)).cell? ⟨w.heap.size + 1 + 1, 4, none⟩ = some (.slice none 0 0) := M2.cell 4
  clear R1 Z1 B1 O1 D1
  have W2E : ∃ W2, W2 = w1.setCell ⟨w.heap.size + 1 + 1, 3, none⟩ (.slice xu nn cu) := ⟨_, rfl⟩
  go_wp2_with (at_builtin; refine wpList_append_intsC rfl _ _ rfl _ _ 0 [] rfl (World.ownsRow_nil _ w1.heap.size _ _) ak nk ck ks rfl HI2 (by omega) (by simp) ?_)
  intro v3 w3 O3 D3
  obtain ⟨W2, hW2⟩ := W2E
  have z2 : W2.heap.size = w1.heap.size := by rw [hW2]; simp
  rw [← hW2] at R2 Z2 M2 B2 O2 D3
  clear hW2 r4 n4 m0 m1 m2 m3 m4 mf HI2
  rw [← z2] at D3 O3
  have R3 := R2.after D3 (Nat.le_refl _)
  have Z3 := Z2.after D3 (Nat.le_refl _)
  have M3 := M2.after D3 (Nat.le_refl _)
  have B3 := B2.trans (D3.mono B2.size)
  have P3 := ownsRow_below O2 D3 (Nat.le_refl _)
  obtain ⟨xk, cv, rfl, _⟩ := owns_form2 O3
  clear R2 Z2 M2 B2 O2
  obtain ⟨m0, m1, m2, m3, m4⟩ := row5N M3
  have mf := fun k => M3.frozen k
  have M4 := M3.set 4 (.slice xk nk cv)
  have Z4 := Z3.setFar (p := ⟨w.heap.size + 1 + 1, 4, none⟩) (by show w.heap.size + 1 ≠ w.heap.size + 1 + 1; omega) (.slice xk nk cv)
  have B4 := B3.setCell (p := ⟨w.heap.size + 1 + 1, 4, none⟩) (by show w.heap.size ≤ w.heap.size + 1 + 1; omega) (.slice xk nk cv)
  have P4 := own_set3 P3 ⟨w.heap.size + 1 + 1, 4, none⟩ (.slice xk nk cv) (fun q hq => by have := (P3.lt q hq).1; show q ≠ w.heap.size + 1 + 1; omega)
  have O4 := own_set3 O3 ⟨w.heap.size + 1 + 1, 4, none⟩ (.slice xk nk cv) (fun q hq => by have := (O3.lt q hq).1; show q ≠ w.heap.size + 1 + 1; omega)
  clear R3 Z3 B3 P3 O3
  have Z3c := Z4
  obtain ⟨t0, t1, t2, t3, t4⟩ := row5N Z4
  have tf := fun k => Z4.frozen k
  have Z5 := ((((Z4.set 0 (.int .i64 op)).set 1 (.int .i64 nu)).set 2 (.string tx)).set 3 (.slice xu nn cu)).set 4 (.slice xk nk cv)
  have B5 := ((((B4.setCell (p := ⟨w.heap.size + 1, 0, none⟩) (Nat.le_succ _) (.int .i64 op)).setCell (p := ⟨w.heap.size + 1, 1, none⟩) (Nat.le_succ _) (.int .i64 nu)).setCell (p := ⟨w.heap.size + 1, 2, none⟩) (Nat.le_succ _) (.string tx)).setCell (p := ⟨w.heap.size + 1, 3, none⟩) (Nat.le_succ _) (.slice xu nn cu)).setCell (p := ⟨w.heap.size + 1, 4, none⟩) (Nat.le_succ _) (.slice xk nk cv)
  have hp : ∀ q, (Value.slice xu nn cu).ownBlock = some q → q ≠ w.heap.size + 1 := fun q hq => by have := (P4.lt q hq).1; omega
  have ho : ∀ q, (Value.slice xk nk cv).ownBlock = some q → q ≠ w.heap.size + 1 := fun q hq => by have := (O4.lt q hq).1; omega
  have P5 := own_set3 (own_set3 (own_set3 (own_set3 (own_set3 P4 ⟨w.heap.size + 1, 0, none⟩ (.int .i64 op) hp) ⟨w.heap.size + 1, 1, none⟩ (.int .i64 nu) hp) ⟨w.heap.size + 1, 2, none⟩ (.string tx) hp) ⟨w.heap.size + 1, 3, none⟩ (.slice xu nn cu) hp) ⟨w.heap.size + 1, 4, none⟩ (.slice xk nk cv) hp
  have O5 := own_set3 (own_set3 (own_set3 (own_set3 (own_set3 O4 ⟨w.heap.size + 1, 0, none⟩ (.int .i64 op) ho) ⟨w.heap.size + 1, 1, none⟩ (.int .i64 nu) ho) ⟨w.heap.size + 1, 2, none⟩ (.string tx) ho) ⟨w.heap.size + 1, 3, none⟩ (.slice xu nn cu) ho) ⟨w.heap.size + 1, 4, none⟩ (.slice xk nk cv) ho
  have HP5 := hide (owns_lowJ P5 (show w.heap.size ≤ w.heap.size + 1 + 1 + 1 by omega))
  have HO5 := hide (owns_lowJ O5 (show w.heap.size ≤ W2.heap.size by omega))
  clear P5 O5 P4 O4 hp ho
  go_wp2_with fail
  obtain ⟨e0, e1, e2, e3, e4⟩ := row5N Z5
  refine bodyPost_ret (v := .agg #[.int .i64 op, .int .i64 nu, .string tx, .slice xu nn cu, .slice xk nk cv]) (by simp [results, Tryz.results18, go_sem, e0, e1, e2, e3, e4]) rfl ⟨⟨xu, cu, xk, cv, ?_, ?_, ?_⟩, B5⟩
  · rfl
  · exact unhide HP5
  · exact unhide HO5

theorem l3copy_any (x : Nd) (an : Option Addr) (nn cn : Nat) (ak : Option Addr) (nk ck : Nat) (w : World) (hN : Strs w an nn cn x.names) (hK : Ints w ak nk ck x.kids) (hs : nn ≤ 1048576) :
    Calls Tryz.prog 18 #[.agg #[.int .i64 x.op, .int .i64 x.num, .string x.text, .slice an nn cn, .slice ak nk ck]] w (NdK x w) := by
  have h1 := hN.len
  have h2 := hK.len
  refine (l3copy_raw x.op x.num x.text x.names x.kids an nn cn ak nk ck w hN hK hs).mono ?_
  subst h1
  subst h2
  exact fun r w' h => h

end Go.Proofs.YtddpcehgopeklaaGreatDoor

namespace Go.Proofs.YtddpcehgopeklaaGreatDoor
open Go.RowKit
set_option linter.unusedVariables false

theorem Touch.mono2 {lo hi lo' hi' : Nat} {w w' : World} (t : Touch lo hi w w') (h1 : lo' ≤ lo) (h2 : hi ≤ hi') : Touch lo' hi' w w' :=
  ⟨t.os, t.tape, t.output, t.size, fun k hk hd => t.block k hk (by omega)⟩

theorem Wd.one {w w' : World} {q n m : Nat} {x : Addr} {t s : TypeId} (h : Wd w x n t) (T : Touch q (q + 1) w w') (k : Wd w ⟨q, 0, none⟩ m s) (k' : Wd w' ⟨q, 0, none⟩ m s) : Wd w' x n t := by
  obtain ⟨p, cs, rfl, r, z⟩ := h
  by_cases e : p = q
  · subst e
    obtain ⟨_, ds, e1, r1, z1⟩ := k
    cases e1
    have e2 := r.out.symm.trans r1.out
    simp only [Option.some.injEq, Obj.cells.injEq] at e2
    obtain ⟨rfl, rfl, _⟩ := e2
    rw [← z, z1]
    exact k'
  · exact ⟨p, cs, rfl, ⟨(T.block p r.lt (by omega)).trans r.out⟩, z⟩

set_option maxHeartbeats 1600000 in
theorem markIntS_z (q n c k : Nat) (w : World) (h : Wd w ⟨q, 0, none⟩ n 3) (hk : k + n ≤ 35184372088832) :
    Calls Tryz.prog 30 #[.slice (some ⟨q, 0, none⟩) n c, .int .i64 k] w fun e w' => e = .returned (.int .i64 ((k : Int) + n)) ∧ Wd w' ⟨q, 0, none⟩ n 3 ∧ Touch q (q + 1) w w' := by
  obtain ⟨_, cs0, e0, R0, z0⟩ := h
  cases e0
  go_enter Tryz.func30, Tryz.ntmps30
  go_wp2
  go_loopw [1, 5] (fun v i wr => ∃ (j : Nat) (cs : Array Value), j ≤ n ∧ i = .int .i64 j ∧ v = .int .i64 ((k : Int) + j) ∧ Row wr q cs 3 ∧ cs.size = n ∧ Touch q (q + 1) w wr) (fun _ i _ => n - (intOf i).toNat)
  case atStart => exact ⟨0, cs0, Nat.zero_le _, rfl, by go_num, R0, z0, Touch.refl _ _ _⟩
  case round =>
    obtain ⟨j, cs, hj, rfl, rfl, R, z, T⟩ := hrel
    clear R0
    by_cases hlt : j < n
    · obtain ⟨u, hu⟩ := some_at (cs := cs) (p := j) (by omega)
      have hc := (R.cell j).trans hu
      have hf := fun i => R.frozen i
      have ilt : (j : Int) < (n : Int) := by omega
      have HR := hide R
      have Hlt := hide hlt
      have Hz := hide z
      clear R hu z hlt
      go_wp2_with fail
      go_roundw
      case rel => exact ⟨j + 1, _, unhide Hlt, by go_num, by go_num, (unhide HR).set j _, by simpa using unhide Hz, T.trans (Touch.setCell _ _ _ (Nat.le_refl _) (Nat.lt_succ_self _))⟩
      case measure => have := unhide Hlt; simp [intOf]; omega
    · have e : j = n := by omega
      subst e
      go_wp2
      go_ret
      exact ⟨rfl, ⟨q, cs, rfl, R, z⟩, T⟩

set_option maxHeartbeats 1600000 in
theorem markStringS_z (q n c k : Nat) (w : World) (h : Wd w ⟨q, 0, none⟩ n 9) (hk : k + n ≤ 35184372088832) :
    Calls Tryz.prog 52 #[.slice (some ⟨q, 0, none⟩) n c, .int .i64 k] w fun e w' => e = .returned (.int .i64 ((k : Int) + n)) ∧ Wd w' ⟨q, 0, none⟩ n 9 ∧ Touch q (q + 1) w w' := by
  obtain ⟨_, cs0, e0, R0, z0⟩ := h
  cases e0
  go_enter Tryz.func52, Tryz.ntmps52
  go_wp2
  go_loopw [1, 5] (fun v i wr => ∃ (j : Nat) (cs : Array Value), j ≤ n ∧ i = .int .i64 j ∧ v = .int .i64 ((k : Int) + j) ∧ Row wr q cs 9 ∧ cs.size = n ∧ Touch q (q + 1) w wr) (fun _ i _ => n - (intOf i).toNat)
  case atStart => exact ⟨0, cs0, Nat.zero_le _, rfl, by go_num, R0, z0, Touch.refl _ _ _⟩
  case round =>
    obtain ⟨j, cs, hj, rfl, rfl, R, z, T⟩ := hrel
    clear R0
    by_cases hlt : j < n
    · obtain ⟨u, hu⟩ := some_at (cs := cs) (p := j) (by omega)
      have ilt : (j : Int) < (n : Int) := by omega
      go_wp2_with fail
      refine (markText_int _ wr (by omega) (by omega)).mono ?_
      rintro e w1 ⟨rfl, hb1⟩
      have R1 := R.after hb1 (Nat.le_refl _)
      have T1 := T.trans (Touch.of_below (lo := q) (hi := q + 1) hb1 (Nat.le_refl _))
      have hc := (R1.cell j).trans hu
      have hf := fun i => R1.frozen i
      have HR := hide R1
      have Hlt := hide hlt
      have Hz := hide z
      generalize markS ((k : Int) + (j : Int)).toNat = mt
      clear R R1 hu z hlt T hb1
      go_wp2_with fail
      go_roundw
      case rel => exact ⟨j + 1, _, unhide Hlt, by go_num, by go_num, (unhide HR).set j _, by simpa using unhide Hz, T1.trans (Touch.setCell _ _ _ (Nat.le_refl _) (Nat.lt_succ_self _))⟩
      case measure => have := unhide Hlt; simp [intOf]; omega
    · have e : j = n := by omega
      subst e
      go_wp2
      go_ret
      exact ⟨rfl, ⟨q, cs, rfl, R, z⟩, T⟩

theorem markIntS_zi (q n c : Nat) (x : Int) (w : World) (h : Wd w ⟨q, 0, none⟩ n 3) (h0 : 0 ≤ x) (hk : x + n ≤ 35184372088832) :
    Calls Tryz.prog 30 #[.slice (some ⟨q, 0, none⟩) n c, .int .i64 x] w fun e w' => e = .returned (.int .i64 (x + n)) ∧ Wd w' ⟨q, 0, none⟩ n 3 ∧ Touch q (q + 1) w w' := by
  obtain ⟨k, rfl⟩ := Int.eq_ofNat_of_zero_le h0
  exact markIntS_z q n c k w h (by omega)

theorem markStringS_zi (q n c : Nat) (x : Int) (w : World) (h : Wd w ⟨q, 0, none⟩ n 9) (h0 : 0 ≤ x) (hk : x + n ≤ 35184372088832) :
    Calls Tryz.prog 52 #[.slice (some ⟨q, 0, none⟩) n c, .int .i64 x] w fun e w' => e = .returned (.int .i64 (x + n)) ∧ Wd w' ⟨q, 0, none⟩ n 9 ∧ Touch q (q + 1) w w' := by
  obtain ⟨k, rfl⟩ := Int.eq_ofNat_of_zero_le h0
  exact markStringS_z q n c k w h (by omega)

/-- rows keep their lengths -/
def KeepW (w w' : World) : Prop := ∀ x n t, Wd w x n t → Wd w' x n t

theorem KeepW.refl (w : World) : KeepW w w := fun _ _ _ h => h
theorem KeepW.trans {a b c : World} (h : KeepW a b) (k : KeepW b c) : KeepW a c := fun x n t hw => k x n t (h x n t hw)
theorem KeepW.below {w w' : World} (hb : Below w.heap.size w w') : KeepW w w' := fun x n t hw => hw.below hb (Nat.le_refl _)
theorem KeepW.one {w w' : World} {q m : Nat} {s : TypeId} (T : Touch q (q + 1) w w') (k : Wd w ⟨q, 0, none⟩ m s) (k' : Wd w' ⟨q, 0, none⟩ m s) : KeepW w w' := fun x n t hw => hw.one T k k'
theorem KeepW.set (w : World) (g i : Nat) (u : Value) : KeepW w (w.setCell ⟨g, i, none⟩ u) := fun x n t hw => by
  obtain ⟨q, cs, rfl, r, z⟩ := hw
  by_cases e : q = g
  · subst e
    exact ⟨q, _, rfl, r.set i u, by simpa using z⟩
  · exact ⟨q, cs, rfl, r.setFar e u, z⟩

/-- the rows behind the nodes, by their lengths -/
def NdZ (w : World) (lo hi n : Nat) (cs : Array Value) : Prop := ∀ i, i < n → ∃ q1 nn q2 nk, cs[i * 5 + 3]? = some (.slice (some ⟨q1, 0, none⟩) nn nn) ∧ cs[i * 5 + 4]? = some (.slice (some ⟨q2, 0, none⟩) nk nk) ∧ Wd w ⟨q1, 0, none⟩ nn 9 ∧ Wd w ⟨q2, 0, none⟩ nk 3 ∧ nn ≤ 1048576 ∧ nk ≤ 1048576 ∧ (lo ≤ q1 ∧ q1 < hi) ∧ lo ≤ q2 ∧ q2 < hi

theorem NdZ.one {w w' : World} {lo hi n q m : Nat} {cs : Array Value} {s : TypeId} (h : NdZ w lo hi n cs) (T : Touch q (q + 1) w w') (k : Wd w ⟨q, 0, none⟩ m s) (k' : Wd w' ⟨q, 0, none⟩ m s) : NdZ w' lo hi n cs := fun i hi' => by
  obtain ⟨q1, nn, q2, nk, c3, c4, w1, w2, l1, l2, b1, b2⟩ := h i hi'
  exact ⟨q1, nn, q2, nk, c3, c4, w1.one T k k', w2.one T k k', l1, l2, b1, b2⟩

theorem NdZ.below {w w' : World} {lo hi n : Nat} {cs : Array Value} (h : NdZ w lo hi n cs) (hb : Below w.heap.size w w') : NdZ w' lo hi n cs := fun i hi' => by
  obtain ⟨q1, nn, q2, nk, c3, c4, w1, w2, l1, l2, b1, b2⟩ := h i hi'
  exact ⟨q1, nn, q2, nk, c3, c4, w1.below hb (Nat.le_refl _), w2.below hb (Nat.le_refl _), l1, l2, b1, b2⟩

/-- a cell of a node that is no slice is written -/
theorem NdZ.set {w : World} {lo hi n g : Nat} {cs : Array Value} (h : NdZ w lo hi n cs) (R : Row w g cs 53) (j r : Nat) (hr : r < 3) (u : Value) : NdZ (w.setCell ⟨g, j * 5 + r, none⟩ u) lo hi n (cs.setIfInBounds (j * 5 + r) u) := fun i hi' => by
  obtain ⟨q1, nn, q2, nk, c3, c4, w1, w2, l1, l2, b1, b2⟩ := h i hi'
  have far : ∀ {q m : Nat} {t : TypeId}, Wd w ⟨q, 0, none⟩ m t → t ≠ 53 → g ≠ q := fun {q m t} hw ht e => by
    obtain ⟨_, ds, e1, r1, _⟩ := hw
    cases e1
    subst e
    have e2 := r1.out.symm.trans R.out
    simp only [Option.some.injEq, Obj.cells.injEq] at e2
    exact ht e2.2.1
  exact ⟨q1, nn, q2, nk, by rw [Array.getElem?_setIfInBounds_ne (by omega)]; exact c3, by rw [Array.getElem?_setIfInBounds_ne (by omega)]; exact c4, w1.setFar (far w1 (by decide)) u, w2.setFar (far w2 (by decide)) u, l1, l2, b1, b2⟩

theorem Row.one {w w' : World} {q m g : Nat} {cs : Array Value} {t s : TypeId} (h : Row w g cs t) (T : Touch q (q + 1) w w') (k : Wd w ⟨q, 0, none⟩ m s) (hts : t ≠ s) : Row w' g cs t := by
  by_cases e : g = q
  · obtain ⟨_, ds, e1, r1, _⟩ := k
    cases e1
    subst e
    have e2 := h.out.symm.trans r1.out
    simp only [Option.some.injEq, Obj.cells.injEq] at e2
    exact absurd e2.2.1 hts
  · exact ⟨(T.block g h.lt (by omega)).trans h.out⟩

set_option maxRecDepth 100000 in
set_option maxHeartbeats 6400000 in
theorem markNodeS_z (lo hi g n c k : Nat) (cs0 : Array Value) (w : World) (R0 : Row w g cs0 53) (z0 : cs0.size = n * 5) (h0 : NdZ w lo hi n cs0) (hg : lo ≤ g ∧ g < hi) (hn : n ≤ 1048576) (hk : k ≤ 1048576) :
    Calls Tryz.prog 28 #[.slice (some ⟨g, 0, none⟩) n c, .int .i64 k] w fun e w' => (∃ y : Nat, e = .returned (.int .i64 y) ∧ y ≤ k + n * 2097155) ∧ Touch lo hi w w' ∧ KeepW w w' := by
  go_enter Tryz.func28, Tryz.ntmps28
  go_wp2
  go_loopw [1, 5] (fun v i wr => ∃ (j y : Nat) (cs : Array Value), j ≤ n ∧ i = .int .i64 j ∧ v = .int .i64 y ∧ y ≤ k + j * 2097155 ∧ Row wr g cs 53 ∧ cs.size = n * 5 ∧ NdZ wr lo hi n cs ∧ Touch lo hi w wr ∧ KeepW w wr) (fun _ i _ => n - (intOf i).toNat)
  case atStart => exact ⟨0, k, cs0, Nat.zero_le _, rfl, rfl, by omega, R0, z0, h0, Touch.refl _ _ _, KeepW.refl _⟩
  case round =>
    obtain ⟨j, y, cs, hj, rfl, rfl, hy, R, z, Z, T, K⟩ := hrel
    clear R0
    by_cases hlt : j < n
    · have ilt : (j : Int) < (n : Int) := by omega
      have y62 : y ≤ 4398046511104 := by omega
      obtain ⟨u0, e0⟩ := some_at (cs := cs) (p := j * 5) (by omega)
      obtain ⟨u1, e1⟩ := some_at (cs := cs) (p := j * 5 + 1) (by omega)
      obtain ⟨u2, e2⟩ := some_at (cs := cs) (p := j * 5 + 2) (by omega)
      obtain ⟨q1, nn, q2, nk, c3, c4, w1, w2, l1, l2, b1, b2⟩ := Z j hlt
      have d0 := (R.cell _).trans e0
      have d1 := (R.cell _).trans e1
      have f0 := fun i => R.frozen i
      have Hy := hide hy
      have Hw := hide (And.intro w1 w2)
      have Hlt := hide hlt
      have Hg := hide hg
      have R2 := (R.set (j * 5) (.int .i64 y)).set (j * 5 + 1) (.int .i64 ((y : Int) + 1))
      have Z2 := (Z.set R j 0 (by decide) (.int .i64 y)).set (R.set (j * 5) (.int .i64 y)) j 1 (by decide) (.int .i64 ((y : Int) + 1))
      have T2 := (T.trans (Touch.setCell wr ⟨g, j * 5, none⟩ (.int .i64 y) hg.1 hg.2)).trans (Touch.setCell _ ⟨g, j * 5 + 1, none⟩ (.int .i64 ((y : Int) + 1)) hg.1 hg.2)
      have g2 : ((cs.setIfInBounds (j * 5) (.int .i64 y)).setIfInBounds (j * 5 + 1) (.int .i64 ((y : Int) + 1)))[j * 5 + 2]? = some u2 := by rw [Array.getElem?_setIfInBounds_ne (by omega), Array.getElem?_setIfInBounds_ne (by omega)]; exact e2
      have g3 : ((cs.setIfInBounds (j * 5) (.int .i64 y)).setIfInBounds (j * 5 + 1) (.int .i64 ((y : Int) + 1)))[j * 5 + 3]? = some (.slice (some ⟨q1, 0, none⟩) nn nn) := by rw [Array.getElem?_setIfInBounds_ne (by omega), Array.getElem?_setIfInBounds_ne (by omega)]; exact c3
      have g4 : ((cs.setIfInBounds (j * 5) (.int .i64 y)).setIfInBounds (j * 5 + 1) (.int .i64 ((y : Int) + 1)))[j * 5 + 4]? = some (.slice (some ⟨q2, 0, none⟩) nk nk) := by rw [Array.getElem?_setIfInBounds_ne (by omega), Array.getElem?_setIfInBounds_ne (by omega)]; exact c4
      have z2 : ((cs.setIfInBounds (j * 5) (.int .i64 y)).setIfInBounds (j * 5 + 1) (.int .i64 ((y : Int) + 1))).size = n * 5 := by simpa using z
      generalize ((cs.setIfInBounds (j * 5) (.int .i64 y)).setIfInBounds (j * 5 + 1) (.int .i64 ((y : Int) + 1))) = ds at R2 Z2 g2 g3 g4 z2
      have HR := hide R2
      have HZ := hide Z2
      have HT := hide T2
      have HK := hide ((K.trans (KeepW.set wr g (j * 5) (.int .i64 y))).trans (KeepW.set _ g (j * 5 + 1) (.int .i64 ((y : Int) + 1))))
      have Hc := hide (And.intro g2 (And.intro g3 g4))
      have Hz := hide z2
      clear R Z T K hy e0 e1 e2 c3 c4 z w1 w2 hlt hg R2 Z2 T2 g2 g3 g4 z2
      go_wp2_with fail
      refine (markText_int _ _ (by omega) (by omega)).mono ?_
      rintro e w1 ⟨rfl, hb1⟩
      generalize markS ((y : Int) + 1 + 1).toNat = mt
      have R3 := (unhide HR).after hb1 (Nat.le_refl _)
      have Z3 := (unhide HZ).below hb1
      have T3 := (unhide HT).trans (Touch.of_below (lo := lo) (hi := hi) hb1 (Nat.le_refl _))
      have R4 := R3.set (j * 5 + 2) (.string mt)
      have HK4 := hide (((unhide HK).trans (KeepW.below hb1)).trans (KeepW.set w1 g (j * 5 + 2) (.string mt)))
      have Z4 := Z3.set R3 j 2 (by decide) (.string mt)
      have T4 := T3.trans (Touch.setCell w1 ⟨g, j * 5 + 2, none⟩ (.string mt) (unhide Hg).1 (unhide Hg).2)
      have k2 := (R3.cell _).trans (unhide Hc).1
      have f3 := fun i => R3.frozen i
      have k3 : (ds.setIfInBounds (j * 5 + 2) (.string mt))[j * 5 + 3]? = some (.slice (some ⟨q1, 0, none⟩) nn nn) := by rw [Array.getElem?_setIfInBounds_ne (by omega)]; exact (unhide Hc).2.1
      have k4 : (ds.setIfInBounds (j * 5 + 2) (.string mt))[j * 5 + 4]? = some (.slice (some ⟨q2, 0, none⟩) nk nk) := by rw [Array.getElem?_setIfInBounds_ne (by omega)]; exact (unhide Hc).2.2
      have z4 : (ds.setIfInBounds (j * 5 + 2) (.string mt)).size = n * 5 := by simpa using unhide Hz
      generalize ds.setIfInBounds (j * 5 + 2) (.string mt) = es at R4 Z4 k3 k4 z4
      have c3 := (R4.cell _).trans k3
      obtain ⟨q1', nn', q2', nk', j3, j4, w3, w4, _⟩ := Z4 j (unhide Hlt)
      rw [k3] at j3
      rw [k4] at j4
      cases j3
      cases j4
      have HR4 := hide R4
      have HZ4 := hide Z4
      have HT4 := hide T4
      have Hk4 := hide k4
      have Hz4 := hide z4
      have HW3 := hide w3
      have HW4 := hide w4
      clear R3 Z3 T3 R4 Z4 T4 k3 k4 z4 w3 w4 hb1 HR HZ HT HK Hc Hz d0 d1 f0 Hw
      dsimp only
      go_wp2_with fail
      refine (markStringS_zi q1 nn nn _ _ (unhide HW3) (by omega) (by omega)).mono ?_
      rintro e w5 ⟨rfl, W5, T5⟩
      have R5 := (unhide HR4).one T5 (unhide HW3) (by decide)
      have Z5 := (unhide HZ4).one T5 (unhide HW3) W5
      have V5 := (unhide HW4).one T5 (unhide HW3) W5
      have HK5 := hide ((unhide HK4).trans (KeepW.one T5 (unhide HW3) W5))
      have U5 := (unhide HT4).trans (T5.mono2 b1.1 b1.2)
      have c4 := (R5.cell _).trans (unhide Hk4)
      have HR5 := hide R5
      have HZ5 := hide Z5
      have HV5 := hide V5
      have HU5 := hide U5
      clear R5 Z5 V5 U5 T5 W5 HR4 HZ4 HT4 HK4 HW3 HW4 c3 f3 k2
      dsimp only
      go_wp2_with fail
      refine (markIntS_zi q2 nk nk _ _ (unhide HV5) (by omega) (by omega)).mono ?_
      rintro e w6 ⟨rfl, W6, T6⟩
      have R6 := (unhide HR5).one T6 (unhide HV5) (by decide)
      have Z6 := (unhide HZ5).one T6 (unhide HV5) W6
      have K6 := (unhide HK5).trans (KeepW.one T6 (unhide HV5) W6)
      have U6 := (unhide HU5).trans (T6.mono2 b2.1 b2.2)
      have HY := hide (show y + 3 + nn + nk ≤ k + (j + 1) * 2097155 by have := unhide Hy; omega)
      clear T6 W6 HR5 HZ5 HV5 HU5 HK5 c4
      dsimp only
      go_wp2_with fail
      go_roundw
      case rel => exact ⟨j + 1, y + 3 + nn + nk, es, unhide Hlt, by go_num, by go_num, unhide HY, R6, unhide Hz4, Z6, U6, K6⟩
      case measure => have := unhide Hlt; simp [intOf]; omega
    · have e : j = n := by omega
      subst e
      go_wp2
      go_ret
      exact ⟨⟨y, rfl, hy⟩, T, K⟩

set_option maxRecDepth 100000 in
set_option maxHeartbeats 6400000 in
theorem markStmtS_z (g n c : Nat) (x : Int) (w : World) (h : Wd w ⟨g, 0, none⟩ (n * 4) 77) (hn : n ≤ 1048576) (hx0 : 0 ≤ x) (hx : x ≤ 4398046511104) :
    Calls Tryz.prog 29 #[.slice (some ⟨g, 0, none⟩) n c, .int .i64 x] w fun e w' => e = .returned (.int .i64 (x + 4 * n)) ∧ Touch g (g + 1) w w' ∧ KeepW w w' := by
  obtain ⟨_, cs0, e0, R0, z0⟩ := h
  cases e0
  go_enter Tryz.func29, Tryz.ntmps29
  go_wp2
  go_loopw [1, 5] (fun v i wr => ∃ (j : Nat) (cs : Array Value), j ≤ n ∧ i = .int .i64 j ∧ v = .int .i64 (x + 4 * j) ∧ Row wr g cs 77 ∧ cs.size = n * 4 ∧ Touch g (g + 1) w wr ∧ KeepW w wr) (fun _ i _ => n - (intOf i).toNat)
  case atStart => exact ⟨0, cs0, Nat.zero_le _, rfl, by go_num, R0, z0, Touch.refl _ _ _, KeepW.refl _⟩
  case round =>
    obtain ⟨j, cs, hj, rfl, rfl, R, z, T, K⟩ := hrel
    clear R0
    by_cases hlt : j < n
    · have ilt : (j : Int) < (n : Int) := by omega
      obtain ⟨u0, e0⟩ := some_at (cs := cs) (p := j * 4) (by omega)
      obtain ⟨u1, e1⟩ := some_at (cs := cs) (p := j * 4 + 1) (by omega)
      obtain ⟨u2, e2⟩ := some_at (cs := cs) (p := j * 4 + 2) (by omega)
      obtain ⟨u3, e3⟩ := some_at (cs := cs) (p := j * 4 + 3) (by omega)
      have d0 := (R.cell _).trans e0
      have f0 := fun i => R.frozen i
      generalize hyx : x + 4 * (j : Int) = y
      have y0 : 0 ≤ y := by omega
      have y1 : y ≤ 4398050705408 := by omega
      have HE := hide (show y + 1 + 1 + 1 + 1 = x + 4 * ((j + 1 : Nat) : Int) by omega)
      have R2 := R.set (j * 4) (.int .i64 y)
      have T2 := T.trans (Touch.setCell wr ⟨g, j * 4, none⟩ (.int .i64 y) (Nat.le_refl _) (Nat.lt_succ_self _))
      have K2 := K.trans (KeepW.set wr g (j * 4) (.int .i64 y))
      have g1 : (cs.setIfInBounds (j * 4) (.int .i64 y))[j * 4 + 1]? = some u1 := by rw [Array.getElem?_setIfInBounds_ne (by omega)]; exact e1
      have g2 : (cs.setIfInBounds (j * 4) (.int .i64 y))[j * 4 + 2]? = some u2 := by rw [Array.getElem?_setIfInBounds_ne (by omega)]; exact e2
      have g3 : (cs.setIfInBounds (j * 4) (.int .i64 y))[j * 4 + 3]? = some u3 := by rw [Array.getElem?_setIfInBounds_ne (by omega)]; exact e3
      have z2 : (cs.setIfInBounds (j * 4) (.int .i64 y)).size = n * 4 := by simpa using z
      generalize cs.setIfInBounds (j * 4) (.int .i64 y) = ds at R2 g1 g2 g3 z2
      have HR := hide R2
      have HT := hide T2
      have HK := hide K2
      have Hc := hide (And.intro g1 (And.intro g2 g3))
      have Hz := hide z2
      have Hlt := hide hlt
      clear hyx R T K e0 e1 e2 e3 z hlt R2 T2 K2 g1 g2 g3 z2
      go_wp2_with fail
      refine (markText_int _ _ (by omega) (by omega)).mono ?_
      rintro e w1 ⟨rfl, hb1⟩
      generalize markS (y + 1).toNat = mt
      have R3 := (unhide HR).after hb1 (Nat.le_refl _)
      have T3 := (unhide HT).trans (Touch.of_below (lo := g) (hi := g + 1) hb1 (Nat.le_refl _))
      have K3 := (unhide HK).trans (KeepW.below hb1)
      have d1 := (R3.cell _).trans (unhide Hc).1
      have d2 := (R3.cell _).trans (unhide Hc).2.1
      have d3 := (R3.cell _).trans (unhide Hc).2.2
      have f3 := fun i => R3.frozen i
      have HR4 := hide (((R3.set (j * 4 + 1) (.string mt)).set (j * 4 + 2) (.int .i64 (y + 1 + 1))).set (j * 4 + 3) (.int .i64 (y + 1 + 1 + 1)))
      have HT4 := hide (((T3.trans (Touch.setCell _ ⟨g, j * 4 + 1, none⟩ (.string mt) (Nat.le_refl _) (Nat.lt_succ_self _))).trans (Touch.setCell _ ⟨g, j * 4 + 2, none⟩ (.int .i64 (y + 1 + 1)) (Nat.le_refl _) (Nat.lt_succ_self _))).trans (Touch.setCell _ ⟨g, j * 4 + 3, none⟩ (.int .i64 (y + 1 + 1 + 1)) (Nat.le_refl _) (Nat.lt_succ_self _)))
      have HK4 := hide (((K3.trans (KeepW.set _ g (j * 4 + 1) (.string mt))).trans (KeepW.set _ g (j * 4 + 2) (.int .i64 (y + 1 + 1)))).trans (KeepW.set _ g (j * 4 + 3) (.int .i64 (y + 1 + 1 + 1))))
      clear R3 T3 K3 hb1 HR HT HK Hc d0 f0
      dsimp only
      go_wp2_with fail
      go_roundw
      case rel => exact ⟨j + 1, _, unhide Hlt, by go_num, by rw [unhide HE], unhide HR4, by simpa using unhide Hz, unhide HT4, unhide HK4⟩
      case measure => have := unhide Hlt; simp [intOf]; omega
    · have e : j = n := by omega
      subst e
      go_wp2
      go_ret
      exact ⟨rfl, T, K⟩

end Go.Proofs.YtddpcehgopeklaaGreatDoor

namespace Go.Proofs.YtddpcehgopeklaaGreatDoor
open Go.RowKit
set_option linter.unusedVariables false

set_option maxHeartbeats 1600000 in
theorem szPolicy_any (a b : Option Addr) (n c m d : Nat) (N : List Nd) (L : List St) (w : World) (h1 : NdsR w a n c N) (h2 : StsR w b m d L) :
    Calls Tryz.prog 4 #[.agg #[.slice a n c, .slice b m d], .int .i64 1048576] w fun e w' => Left 1048576 (smallP n m N L) e ∧ Below w.heap.size w w' := by
  have R0 := Row.new w #[.slice a n c, .slice b m d] 25
  have B0 := (Below.refl w.heap.size w).alloc (Nat.le_refl _) (.cells #[.slice a n c, .slice b m d] 25)
  have N0 := h1.below B0 (Nat.le_refl _)
  have L0 := h2.below B0 (Nat.le_refl _)
  go_enter Tryz.func4, Tryz.ntmps4
  go_wp2_with (first
    | (go_at_call 14; refine (szNodeS_any _ _ _ _ _ _ N0 (by omega) (by omega)).mono ?_; rintro e w2 ⟨⟨r, rfl, hr⟩, hb2⟩; have hr1 : -1 ≤ r ∧ r ≤ 1048576 := (by rcases hr with h | h <;> omega); have Hr := hide hr; clear hr; have q0 := (R0.after hb2 (Nat.le_refl _)).cell 0; have q1 := (R0.after hb2 (Nat.le_refl _)).cell 1; have E2 := B0.trans (hb2.mono B0.size))
    | (go_at_call 15; refine (szStmtS_any _ _ _ _ _ _ (L0.below hb2 (Nat.le_refl _)) (by omega) (by omega)).mono ?_; rintro e w3 ⟨⟨r2, rfl, hr2⟩, hb3⟩; have Hr2 := hide hr2; clear hr2; have E3 := E2.trans (hb3.mono E2.size)))
  · go_ret
    exact ⟨left_no _ _, E2⟩
  · go_ret
    exact ⟨left_no _ _, E3⟩
  · go_ret
    have a1 := unhide Hr
    have a2 := unhide Hr2
    refine ⟨⟨_, rfl, .inr ⟨by omega, by omega, ?_, ?_⟩⟩, E3⟩
    · rcases a1 with e | e
      · omega
      · exact e.2.2
    · rcases a2 with e | e
      · omega
      · exact e.2.2

end Go.Proofs.YtddpcehgopeklaaGreatDoor

namespace Go.Proofs.YtddpcehgopeklaaGreatDoor
open Go.RowKit
set_option linter.unusedVariables false

end Go.Proofs.YtddpcehgopeklaaGreatDoor

namespace Go.Proofs.YtddpcehgopeklaaGreatDoor
set_option maxRecDepth 100000
open Go.ChangeShapes Go.WideShapes Go.RowKit Go.Deep
set_option linter.unusedVariables false

theorem cellsStr : Tryz.prog.cellsOf 9 = 1 := by kernel_rfl
theorem cellsI64 : Tryz.prog.cellsOf 2 = 1 := by kernel_rfl
theorem cellsInt : Tryz.prog.cellsOf 3 = 1 := by kernel_rfl
theorem cellsSS : Tryz.prog.cellsOf 51 = 1 := by kernel_rfl
theorem cellsIS : Tryz.prog.cellsOf 29 = 1 := by kernel_rfl
theorem cellsNd : Tryz.prog.cellsOf 70 = 5 := by kernel_rfl
theorem cellsSt : Tryz.prog.cellsOf 73 = 4 := by kernel_rfl
theorem cellsNdS : Tryz.prog.cellsOf 22 = 1 := by kernel_rfl
theorem cellsStS : Tryz.prog.cellsOf 23 = 1 := by kernel_rfl
theorem cellsPol : Tryz.prog.cellsOf 25 = 2 := by kernel_rfl

instance : Inhabited Nd := ⟨⟨0, 0, ⟨#[]⟩, [], []⟩⟩
instance : Inhabited St := ⟨⟨0, ⟨#[]⟩, 0, 0⟩⟩

section
variable {H : Type} {enc : TypeId × Value → H} {w : World} {held : Bool}

theorem add_lit' (b off j : Nat) : (⟨b, off, none⟩ : Addr).add j = ⟨b, off + j, none⟩ := by
  by_cases e : j = 0 <;> simp [Addr.add, e]

theorem slice_form {t e : TypeId} {fuel : Nat} {v : Value} {x : DataW H × List MemPlace} (ht : Tryz.prog.underlying t = some (.slice e)) (h : DataW.trod enc Tryz.prog w 0 (fun _ => true) held fuel t [v] = some x) : ∃ a l c, v = .slice a l c := by
  rcases open_slice ht h with ⟨hcs, _⟩ | ⟨_, _, _, _, _, _, _, hcs, _⟩
  · simp only [List.cons.injEq, and_true] at hcs; exact ⟨_, _, _, hcs⟩
  · simp only [List.cons.injEq, and_true] at hcs; exact ⟨_, _, _, hcs⟩

theorem spot_of {a : Addr} {v : Value} (h : w.cell? (a.add 0) = some v) : ∃ b off, a = ⟨b, off, none⟩ := by
  have hs := World.cell?_spot h
  obtain ⟨b, off, spot⟩ := a
  simp [Addr.add] at hs
  subst hs
  exact ⟨b, off, rfl⟩

theorem IntsR.of_trod {fuel : Nat} {x : DataW H × List MemPlace} {a : Option Addr} {n c : Nat} (h : DataW.trod enc Tryz.prog w 0 (fun _ => true) held fuel 29 [.slice a n c] = some x) : ∃ L, IntsR w a n c L := by
  rcases open_slice1 Tryz.underlying29 cellsInt h with ⟨hcs, _⟩ | ⟨ad, len, cap, m, k, V, D, Pl, hcs, _, hl, hm, hmm, _, hx⟩
  · simp only [List.cons.injEq, Value.slice.injEq, and_true] at hcs
    obtain ⟨rfl, rfl, rfl⟩ := hcs
    exact ⟨[], rfl, Nat.le_refl _, Nat.zero_le _, fun j hj => absurd hj (by simp)⟩
  · simp only [List.cons.injEq, Value.slice.injEq, and_true] at hcs
    obtain ⟨rfl, rfl, rfl⟩ := hcs
    simp only [if_true] at hmm
    obtain ⟨f, hf⟩ := choose_lt (α := Int) (n := n) (p := fun i z => w.cell? (ad.add i) = some (.int .i64 z)) (fun i hi => by
      obtain ⟨h1, h2⟩ := hx i (by omega)
      obtain ⟨z, hz, _⟩ := DataW.trod_int Tryz.underlying3 h2
      simp only [List.cons.injEq, and_true] at hz
      exact ⟨z, by rw [h1, hz]⟩)
    refine ⟨(List.range n).map f, by simp, hl, hm, fun j hj => ?_⟩
    have hjn : j < n := by simpa using hj
    obtain ⟨b, off, rfl⟩ := spot_of (hf 0 (by omega))
    have hc := hf j hjn
    rw [add_lit'] at hc
    refine ⟨b, off, rfl, lt_of_cell hc, ?_⟩
    rw [hc]
    simp

theorem NdAtR.of_trod {fuel b o : Nat} {cs : List Value} {x : DataW H × List MemPlace} (h : DataW.trod enc Tryz.prog w 0 (fun _ => true) held fuel 70 cs = some x) (hc : ∀ i, i < 5 → w.cell? ⟨b, o + i, none⟩ = cs[i]?) : ∃ y : Nd, NdAtR w b o y ∧ y.text.size ≤ maxLen ∧ y.num ≤ 9223372036854775807 := by
  obtain ⟨xs, n, _, _, hcl, hlen, hx⟩ := DataW.trod_struct Tryz.underlying70 h
  rw [cellsNd] at hcl
  match cs, hcl with
  | [x0, x1, x2, x3, x4], _ =>
    have get : ∀ i, i < 5 → ∃ y, xs[i]? = some y := fun i hi => ⟨xs[i]'(by simp at hlen; omega), List.getElem?_eq_getElem _⟩
    obtain ⟨y0, e0⟩ := get 0 (by omega)
    obtain ⟨y1, e1⟩ := get 1 (by omega)
    obtain ⟨y2, e2⟩ := get 2 (by omega)
    obtain ⟨y3, e3⟩ := get 3 (by omega)
    obtain ⟨y4, e4⟩ := get 4 (by omega)
    have f0 : DataW.trod enc Tryz.prog w 0 (fun _ => true) held n 3 [x0] = some y0 := by
      have := (hx 0 _ rfl).trans e0
      simpa [cellsInt] using this
    have f1 : DataW.trod enc Tryz.prog w 0 (fun _ => true) held n 2 [x1] = some y1 := by
      have := (hx 1 _ rfl).trans e1
      simpa [cellsI64] using this
    have f2 : DataW.trod enc Tryz.prog w 0 (fun _ => true) held n 9 [x2] = some y2 := by
      have := (hx 2 _ rfl).trans e2
      simpa [cellsStr] using this
    have f3 : DataW.trod enc Tryz.prog w 0 (fun _ => true) held n 51 [x3] = some y3 := by
      have := (hx 3 _ rfl).trans e3
      simpa [cellsSS] using this
    have f4 : DataW.trod enc Tryz.prog w 0 (fun _ => true) held n 29 [x4] = some y4 := by
      have := (hx 4 _ rfl).trans e4
      simpa [cellsIS] using this
    obtain ⟨op, k0, _, _⟩ := DataW.trod_int Tryz.underlying3 f0
    obtain ⟨num, k1, _, hwf⟩ := DataW.trod_int Tryz.underlying2 f1
    have hnum : num ≤ 9223372036854775807 := by
      simp only [Lit.wf, Bool.and_eq_true, decide_eq_true_eq] at hwf
      exact hwf.2
    obtain ⟨text, k2, _, htx⟩ := DataW.trod_string Tryz.underlying9 f2
    simp only [List.cons.injEq, and_true] at k0 k1 k2
    subst k0 k1 k2
    obtain ⟨an, nn, cn, rfl⟩ := slice_form Tryz.underlying51 f3
    obtain ⟨ak, nk, ck, rfl⟩ := slice_form Tryz.underlying29 f4
    obtain ⟨names, hN⟩ := Strs.of_trod Tryz.underlying51 Tryz.underlying9 cellsStr f3
    obtain ⟨kids, hK⟩ := IntsR.of_trod f4
    exact ⟨⟨op, num, text, names, kids⟩, ⟨an, nn, cn, ak, nk, ck, hc 0 (by omega), hc 1 (by omega), hc 2 (by omega), hc 3 (by omega), hc 4 (by omega), hN, hK⟩, htx, hnum⟩

theorem NdsR.of_trod {fuel : Nat} {x : DataW H × List MemPlace} {a : Option Addr} {n c : Nat} (h : DataW.trod enc Tryz.prog w 0 (fun _ => true) held fuel 22 [.slice a n c] = some x) : ∃ L, NdsR w a n c L ∧ ∀ x ∈ L, x.num ≤ 9223372036854775807 := by
  rcases open_slice Tryz.underlying22 h with ⟨hcs, _⟩ | ⟨ad, len, cap, m, k, D, Pl, hcs, _, hl, hm, hmm, _, hx⟩
  · simp only [List.cons.injEq, Value.slice.injEq, and_true] at hcs
    obtain ⟨rfl, rfl, rfl⟩ := hcs
    exact ⟨[], ⟨rfl, Nat.le_refl _, Nat.zero_le _, fun x hx => (by cases hx), fun j hj => absurd hj (by simp)⟩, fun x hx => (by cases hx)⟩
  · simp only [List.cons.injEq, Value.slice.injEq, and_true] at hcs
    obtain ⟨rfl, rfl, rfl⟩ := hcs
    simp only [if_true] at hmm
    rw [cellsNd] at hx
    obtain ⟨f, hf⟩ := choose_lt (α := Nd) (n := n) (p := fun i y => ∃ b off, ad = ⟨b, off, none⟩ ∧ b < w.heap.size ∧ NdAtR w b (off + i * 5) y ∧ y.text.size ≤ maxLen ∧ y.num ≤ 9223372036854775807) (fun i hi => by
      obtain ⟨cs', h1, h2⟩ := hx i (by omega)
      obtain ⟨_, hlen, hc⟩ := World.cells?_some h1
      obtain ⟨v, hv⟩ : ∃ v, cs'[0]? = some v := ⟨cs'[0]'(by omega), List.getElem?_eq_getElem _⟩
      obtain ⟨cz, hz1, hz2⟩ := hx 0 (by omega)
      obtain ⟨_, hzl, hzc⟩ := World.cells?_some hz1
      obtain ⟨b, off, rfl⟩ := spot_of (v := cz[0]'(by omega)) (by have := (hzc 0 (by omega)).trans (List.getElem?_eq_getElem (by omega)); simpa [Addr.add] using this)
      have hc0' := (hc 0 (by omega)).trans hv
      rw [add_lit'] at hc hc0'
      rw [add_lit'] at hc0'
      obtain ⟨y, hy, ht⟩ := NdAtR.of_trod (b := b) (o := off + i * 5) h2 (fun j hj => by rw [← hc j hj, add_lit'])
      exact ⟨y, b, off, rfl, lt_of_cell hc0', hy, ht⟩)
    refine ⟨(List.range n).map f, ⟨by simp, hl, hm, fun x hx => ?_, fun j hj => ?_⟩, fun x hx => ?_⟩
    · obtain ⟨i, hi, rfl⟩ := List.mem_map.1 hx
      obtain ⟨_, _, _, _, _, ht, _⟩ := hf i (by simpa using hi)
      exact ht
    · have hjn : j < n := by simpa using hj
      obtain ⟨b, off, rfl, hl', hy, _, _⟩ := hf j hjn
      exact ⟨b, off, rfl, hl', by simpa using hy⟩
    · obtain ⟨i, hi, rfl⟩ := List.mem_map.1 hx
      obtain ⟨_, _, _, _, _, _, ht⟩ := hf i (by simpa using hi)
      exact ht

theorem StsR.of_trod {fuel : Nat} {x : DataW H × List MemPlace} {a : Option Addr} {n c : Nat} (h : DataW.trod enc Tryz.prog w 0 (fun _ => true) held fuel 23 [.slice a n c] = some x) : ∃ L, StsR w a n c L := by
  rcases open_slice Tryz.underlying23 h with ⟨hcs, _⟩ | ⟨ad, len, cap, m, k, D, Pl, hcs, _, hl, hm, hmm, _, hx⟩
  · simp only [List.cons.injEq, Value.slice.injEq, and_true] at hcs
    obtain ⟨rfl, rfl, rfl⟩ := hcs
    exact ⟨[], rfl, Nat.le_refl _, Nat.zero_le _, fun x hx => (by cases hx), fun j hj => absurd hj (by simp)⟩
  · simp only [List.cons.injEq, Value.slice.injEq, and_true] at hcs
    obtain ⟨rfl, rfl, rfl⟩ := hcs
    simp only [if_true] at hmm
    rw [cellsSt] at hx
    obtain ⟨f, hf⟩ := choose_lt (α := St) (n := n) (p := fun i y => ∃ b off, ad = ⟨b, off, none⟩ ∧ b < w.heap.size ∧ (w.cell? ⟨b, off + i * 4, none⟩ = some (.int .i64 y.kind) ∧ w.cell? ⟨b, off + i * 4 + 1, none⟩ = some (.string y.name) ∧ w.cell? ⟨b, off + i * 4 + 2, none⟩ = some (.int .i64 y.cond) ∧ w.cell? ⟨b, off + i * 4 + 3, none⟩ = some (.int .i64 y.grant)) ∧ y.name.size ≤ maxLen) (fun i hi => by
      obtain ⟨cs', h1, h2⟩ := hx i (by omega)
      obtain ⟨_, hlen, hc⟩ := World.cells?_some h1
      obtain ⟨v, hv⟩ : ∃ v, cs'[0]? = some v := ⟨cs'[0]'(by omega), List.getElem?_eq_getElem _⟩
      obtain ⟨cz, hz1, hz2⟩ := hx 0 (by omega)
      obtain ⟨_, hzl, hzc⟩ := World.cells?_some hz1
      obtain ⟨b, off, rfl⟩ := spot_of (v := cz[0]'(by omega)) (by have := (hzc 0 (by omega)).trans (List.getElem?_eq_getElem (by omega)); simpa [Addr.add] using this)
      have hc0' := (hc 0 (by omega)).trans hv
      rw [add_lit'] at hc hc0'
      rw [add_lit'] at hc0'
      have hc2 : ∀ j, j < 4 → w.cell? ⟨b, off + i * 4 + j, none⟩ = cs'[j]? := fun j hj => by rw [← hc j hj, add_lit']
      obtain ⟨xs, n', _, _, hcl, hxl, hxx⟩ := DataW.trod_struct Tryz.underlying73 h2
      match cs', hlen with
      | [x0, x1, x2, x3], _ =>
        have get : ∀ i, i < 4 → ∃ y, xs[i]? = some y := fun i hi => ⟨xs[i]'(by simp at hxl; omega), List.getElem?_eq_getElem _⟩
        obtain ⟨y0, e0⟩ := get 0 (by omega)
        obtain ⟨y1, e1⟩ := get 1 (by omega)
        obtain ⟨y2, e2⟩ := get 2 (by omega)
        obtain ⟨y3, e3⟩ := get 3 (by omega)
        have f0 : DataW.trod enc Tryz.prog w 0 (fun _ => true) held n' 3 [x0] = some y0 := by
          have := (hxx 0 _ rfl).trans e0
          simpa [cellsInt] using this
        have f1 : DataW.trod enc Tryz.prog w 0 (fun _ => true) held n' 9 [x1] = some y1 := by
          have := (hxx 1 _ rfl).trans e1
          simpa [cellsStr] using this
        have f2 : DataW.trod enc Tryz.prog w 0 (fun _ => true) held n' 3 [x2] = some y2 := by
          have := (hxx 2 _ rfl).trans e2
          simpa [cellsInt] using this
        have f3 : DataW.trod enc Tryz.prog w 0 (fun _ => true) held n' 3 [x3] = some y3 := by
          have := (hxx 3 _ rfl).trans e3
          simpa [cellsInt] using this
        obtain ⟨kind, k0, _, _⟩ := DataW.trod_int Tryz.underlying3 f0
        obtain ⟨name, k1, _, htx⟩ := DataW.trod_string Tryz.underlying9 f1
        obtain ⟨cond, k2, _, _⟩ := DataW.trod_int Tryz.underlying3 f2
        obtain ⟨grant, k3, _, _⟩ := DataW.trod_int Tryz.underlying3 f3
        simp only [List.cons.injEq, and_true] at k0 k1 k2 k3
        subst k0 k1 k2 k3
        exact ⟨⟨kind, name, cond, grant⟩, b, off, rfl, lt_of_cell hc0', ⟨hc2 0 (by omega), hc2 1 (by omega), hc2 2 (by omega), hc2 3 (by omega)⟩, htx⟩)
    refine ⟨(List.range n).map f, by simp, hl, hm, fun x hx => ?_, fun j hj => ?_⟩
    · obtain ⟨i, hi, rfl⟩ := List.mem_map.1 hx
      obtain ⟨_, _, _, _, _, ht⟩ := hf i (by simpa using hi)
      exact ht
    · have hjn : j < n := by simpa using hj
      obtain ⟨b, off, rfl, hl', hy, _⟩ := hf j hjn
      exact ⟨b, off, rfl, hl', by simpa using hy⟩

theorem open_pol {r : Reach} {b0 : Nat} {v : Value} {d : DataW H} {p : List MemPlace}
    (hv : Value.okWide Tryz.prog w r b0 25 v) (h : DataW.Trod enc Tryz.prog w 0 (fun _ => true) held 25 v d p) :
    ∃ (a b : Option Addr) (n c m d : Nat) (N : List Nd) (L : List St), v = .agg #[.slice a n c, .slice b m d] ∧ NdsR w a n c N ∧ StsR w b m d L ∧ ∀ x ∈ N, x.num ≤ 9223372036854775807 := by
  obtain ⟨cs, rfl, hsz⟩ := okWide_struct Tryz.underlying25 hv
  have hsz2 := hsz.trans cellsPol
  obtain ⟨l⟩ := cs
  match l, hsz2 with
  | [x0, x1], _ =>
    obtain ⟨fuel, hf⟩ := h
    obtain ⟨xs, n, _, _, _, hlen, hx⟩ := DataW.trod_struct Tryz.underlying25 hf
    have get : ∀ i, i < 2 → ∃ y, xs[i]? = some y := fun i hi => ⟨xs[i]'(by simp at hlen; omega), List.getElem?_eq_getElem _⟩
    obtain ⟨y0, e0⟩ := get 0 (by omega)
    obtain ⟨y1, e1⟩ := get 1 (by omega)
    have f0 : DataW.trod enc Tryz.prog w 0 (fun _ => true) held n 22 [x0] = some y0 := by
      have := (hx 0 _ rfl).trans e0
      simpa [Value.cells, cellsNdS] using this
    have f1 : DataW.trod enc Tryz.prog w 0 (fun _ => true) held n 23 [x1] = some y1 := by
      have := (hx 1 _ rfl).trans e1
      simpa [Value.cells, cellsStS] using this
    obtain ⟨a1, n1, c1, rfl⟩ := slice_form Tryz.underlying22 f0
    obtain ⟨a2, n2, c2, rfl⟩ := slice_form Tryz.underlying23 f1
    obtain ⟨N, hN, hnum⟩ := NdsR.of_trod f0
    obtain ⟨L, hL⟩ := StsR.of_trod f1
    exact ⟨a1, a2, n1, c1, n2, c2, N, L, rfl, hN, hL, hnum⟩

end

end Go.Proofs.YtddpcehgopeklaaGreatDoor

/-
  append of a text's bytes, and where the new slice lies. Own work.
-/
import Derived.Test.YtnbeodlgmdenlaaEB
import Derived.Lib.AppendStr
namespace Go.Proofs.Ytnbeodlgmdenlaa
open Go.RowKit Go.Lib
set_option linter.unusedVariables false

theorem strCells_eq (s : ByteArray) : strCells s = bytesV (strB s) := by
  simp [strCells, bytesV, strB]

theorem run_append_str_lies {P : Program} {w : World} (base : Nat) (t u ty e : TypeId) (i : TypeInfo) (ht : P.underlying t = some (.slice e)) (hu : P.underlying u = some .string) (hi : P.info? e = some i) (hz : i.zero = some (.int .u8 0))
    (hsize : i.size = 1) (hby : i.bytes = 1) (v : Value) (n : Nat) (xs : List Value) (hown : w.ownsRow base e 1 v n xs) (s : ByteArray)
    (h63 : n + s.size ≤ maxLen) (hbytes : n + s.size ≤ 140737488355328) (hbase : base ≤ w.heap.size) :
    ∃ v' w', (Builtin.append_ #[t, u] ty #[v, .string s]).run P w = .ok v' w' ∧ w'.ownsRow base e 1 v' (n + s.size) (xs ++ strCells s) ∧ w.grownBy w' v.ownBlock ∧ ∀ q, v'.ownBlock = some q → v.ownBlock = some q ∨ q = w.heap.size := by
  obtain ⟨v', w', hr, h2, h3, h4⟩ := run_append_own_string (P := P) w base t u ty e i ht hu hi hz hsize hby v n xs hown s h63 hbytes hbase
  refine ⟨v', w', hr, h2, h3, fun q hq => ?_⟩
  have hsmall : n + s.size ≤ 9223372036854775807 := by simp only [maxLen] at h63; omega
  have hxl : xs.length = n := by simpa using hown.1
  rcases hown.2 with ⟨rfl, rfl⟩ | ⟨g, cap, cur, rfl, hbg, hg, hnc, hcm, hcs, htake⟩
  · by_cases hm : s.size = 0
    · rw [h4.2 ⟨rfl, hm⟩] at hq
      cases hq
    · have hr2 := run_append_nil_string (P := P) w t u ty e i (.int .u8 0) ht hu hi hz s (by omega) (by omega) (by rw [hby]; omega)
      rw [hr] at hr2
      injection hr2 with e1 e2
      subst e1
      simp [Value.ownBlock] at hq
      exact .inr hq.symm
  · by_cases hroom : n + s.size ≤ cap
    · have hr2 := run_append_room_string (P := P) w t u ty e i ht hu hi hsize g n cap cur hg s hroom (by have h9 : cur.size = cap := (by simpa using hcs); omega)
      rw [hr] at hr2
      injection hr2 with e1 e2
      subst e1
      exact .inl hq
    · have holds : ∀ j u, xs[j]? = some u → w.cell? ((⟨g, 0, none⟩ : Addr).add j) = some u := hown.cells (g := g) rfl
      have hr2 := run_append_grow_string (P := P) w t u ty e i (.int .u8 0) ht hu hi hz ⟨g, 0, none⟩ n cap xs (by rw [hsize]; simpa using hxl) holds s (by omega) (by omega) (by rw [hby]; exact growslice_fits (by omega) (by omega))
      rw [hr] at hr2
      injection hr2 with e1 e2
      subst e1
      simp [Value.ownBlock] at hq
      exact .inr hq.symm

theorem wp_append_str_lies {P : Program} {w : World} {o : Oper} {a : Act} {K : Act → World → Prop} {Q : Exit → Act → World → Prop} (sl x : Operand) (t u : TypeId)
    (ho : o.op = .call { callee := .builtin .append, args := #[sl, x], argTypes := #[t, u] })
    (base : Nat) (e : TypeId) (i : TypeInfo) (ht : P.underlying t = some (.slice e)) (hu : P.underlying u = some .string) (hi : P.info? e = some i) (hz : i.zero = some (.int .u8 0))
    (hsize : i.size = 1) (hby : i.bytes = 1)
    (v : Value) (n : Nat) (xs : List Value) (hs : a.eval sl = v) (hown : w.ownsRow base e 1 v n xs) (s : ByteArray) (hx : a.eval x = .string s)
    (h63 : n + s.size ≤ maxLen) (hbytes : n + s.size ≤ 140737488355328) (hbase : base ≤ w.heap.size)
    (h : ∀ v' w', w'.ownsRow base e 1 v' (n + s.size) (xs ++ strCells s) → w.grownBy w' v.ownBlock → (∀ q, v'.ownBlock = some q → v.ownBlock = some q ∨ q = w.heap.size) → K (a.put o.dst v') w') : o.wp P a w K Q := by
  obtain ⟨v', w', hr, h2, h3, h4⟩ := run_append_str_lies (P := P) base t u o.type e i ht hu hi hz hsize hby v n xs hown s h63 hbytes hbase
  unfold Oper.wp execOp
  simp only [ho, resolve, invoke, builtin, Sem.run_bind, Sem.run_pure, Result.andThen_ok, List.map_toArray, List.map_cons, List.map_nil, hs, hx, hr]
  exact h v' w' h2 h3 h4

theorem step_append_str_lies {P : Program} {w : World} {ops : Array Oper} {o : Oper} {a : Act} {K : Act → World → Prop} {Q : Exit → Act → World → Prop} {E : Prop} (hgd : o.guard = none) (sl x : Operand) (t u : TypeId)
    (ho : o.op = .call { callee := .builtin .append, args := #[sl, x], argTypes := #[t, u] })
    (base : Nat) (e : TypeId) (i : TypeInfo) (ht : P.underlying t = some (.slice e)) (hu : P.underlying u = some .string) (hi : P.info? e = some i) (hz : i.zero = some (.int .u8 0))
    (hsize : i.size = 1) (hby : i.bytes = 1)
    (v : Value) (n : Nat) (xs : List Value) (hs : a.eval sl = v) (hown : w.ownsRow base e 1 v n xs) (s : ByteArray) (hx : a.eval x = .string s)
    (h63 : n + s.size ≤ maxLen) (hbytes : n + s.size ≤ 140737488355328) (hbase : base ≤ w.heap.size)
    (h : ∀ v' w', w'.ownsRow base e 1 v' (n + s.size) (xs ++ strCells s) → w.grownBy w' v.ownBlock → (∀ q, v'.ownBlock = some q → v.ownBlock = some q ∨ q = w.heap.size) → K (a.put o.dst v') w') :
    if Region.wanted o (yielded ops a.tmps) = true then Oper.wp P o a w K Q else E := by
  have hw : Region.wanted o (yielded ops a.tmps) = true := by simp [Region.wanted, hgd]
  rw [if_pos hw]
  exact wp_append_str_lies sl x t u ho base e i ht hu hi hz hsize hby v n xs hs hown s hx h63 hbytes hbase h

theorem wpList_append_str_lies {P : Program} {w : World} {ops : Array Oper} {rest : List Oper} {o : Oper} {a : Act} {Q : Exit → Act → World → Prop} (hgd : o.guard = none) (sl x : Operand) (t u : TypeId)
    (ho : o.op = .call { callee := .builtin .append, args := #[sl, x], argTypes := #[t, u] })
    (base : Nat) (e : TypeId) (i : TypeInfo) (ht : P.underlying t = some (.slice e)) (hu : P.underlying u = some .string) (hi : P.info? e = some i) (hz : i.zero = some (.int .u8 0))
    (hsize : i.size = 1) (hby : i.bytes = 1)
    (v : Value) (n : Nat) (xs : List Value) (hs : a.eval sl = v) (hown : w.ownsRow base e 1 v n xs) (s : ByteArray) (hx : a.eval x = .string s)
    (h63 : n + s.size ≤ maxLen) (hbytes : n + s.size ≤ 140737488355328) (hbase : base ≤ w.heap.size)
    (h : ∀ v' w', w'.ownsRow base e 1 v' (n + s.size) (xs ++ strCells s) → w.grownBy w' v.ownBlock → (∀ q, v'.ownBlock = some q → v.ownBlock = some q ∨ q = w.heap.size) → wpList P ops Q rest (a.put o.dst v') w') : wpList P ops Q (o :: rest) a w :=
  wpList_plain hgd fun _ hK => wp_append_str_lies sl x t u ho base e i ht hu hi hz hsize hby v n xs hs hown s hx h63 hbytes hbase fun v' w' h2 h3 h4 => hK _ _ (h v' w' h2 h3 h4)

theorem bytes_app {w : World} {B : Nat} {v : Value} {O : List Int} {s : ByteArray} (h : w.ownsRow B 5 1 v (O.length + s.size) (bytesV O ++ strCells s)) : w.ownsRow B 5 1 v (O ++ strB s).length (bytesV (O ++ strB s)) := by
  rw [List.length_append, strB_len, bytesV, List.map_append]
  rw [strCells_eq] at h
  exact h

theorem wk_str {g : Nat} {w w' : World} {v v' : Value} (hg : w.grownBy w' v.ownBlock) (ha : ∀ q, v'.ownBlock = some q → v.ownBlock = some q ∨ q = w.heap.size) (u : Value) : WK g w v (w'.setCell ⟨g, 3, none⟩ u) v' :=
  ⟨fun k hk hkg hne => (heap_setCell_other w' ⟨g, 3, none⟩ k u hkg).trans (hg.block k hk hne), fun q hq => by
    rcases ha q hq with e | e
    · exact .inl e
    · right; omega, by have := hg.size; simpa using this⟩

set_option maxHeartbeats 1600000 in
theorem count_any (g : Nat) (h0 h1 h2 : Int) (v : Value) (O : List Int) (n : Int) (w : World) (hw : Wr w g h0 h1 h2 v O) (hO : O.length ≤ 100000000) :
    Calls Try.prog 35 #[.pointer (some ⟨g, 0, none⟩), .int .i64 n] w fun e w' => WrAns w g h0 h1 h2 v (O ++ beB n 2) e w' := by
  go_enter Try.func35, Try.ntmps35
  go_wp2_with (go_at_call 37; refine (number_any g h0 h1 h2 v O _ 2 _ hw (by omega) hO).mono ?_; rintro e w2 ⟨rfl, hx⟩)
  exact bodyPost_end (by simp [results, Try.results35, go_sem]) rfl ⟨rfl, hx⟩

set_option maxHeartbeats 1600000 in
theorem text_any (g : Nat) (h0 h1 h2 : Int) (v : Value) (O : List Int) (s : ByteArray) (w : World) (hw : Wr w g h0 h1 h2 v O) (hO : O.length ≤ 100000000) (hs : s.size ≤ 1048576) :
    Calls Try.prog 48 #[.pointer (some ⟨g, 0, none⟩), .string s] w fun e w' => WrAns w g h0 h1 h2 v (O ++ textB s) e w' := by
  obtain ⟨i, hi, hz0, hz1, hz2⟩ := info_parts infoB
  go_enter Try.func48, Try.ntmps48
  go_wp2_with (first
    | (go_at_call 37; refine (number_any g h0 h1 h2 v O _ 1 _ hw (by omega) hO).mono ?_; rintro e w2 ⟨rfl, v2, W2, K2, B2⟩; obtain ⟨x, c, rfl⟩ := bytes_form W2.own; have hl2 : (O ++ beB (↑s.size) 1).length = O.length + 1 := (by rw [List.length_append, beB_len]); obtain ⟨O2, HO2⟩ : ∃ O2, Hid (O ++ beB (↑s.size) 1 = O2) := ⟨_, hide rfl⟩; rw [unhide HO2] at W2 K2 hl2; have hl3 : O2.length ≤ 100000001 := (by omega); clear hl2; have q3 := W2.row.cell 3; have f3 := W2.row.frozen 3; simp only [List.getElem?_toArray, List.getElem?_cons_succ, List.getElem?_cons_zero] at q3; have hgl := W2.row.lt; have hgo : ∀ q, (Value.slice x O2.length c).ownBlock = some q → g + 1 ≤ q := fun q hq => (W2.own.lt q hq).1)
    | (at_builtin; refine wpList_append_str_lies rfl _ _ 27 9 rfl (g + 1) 5 i Try.underlying27 Try.underlying9 hi hz0 hz1 hz2 (.slice x O2.length c) O2.length (bytesV O2) rfl W2.own s rfl (by unfold maxLen; omega) (by omega) (by omega) ?_; intro v3 w3 O3 hgrow hat; have R3 : Row w3 g #[.int .i64 h0, .int .i64 h1, .int .i64 h2, .slice x O2.length c] 57 := ⟨(hgrow.block g hgl (fun e => by have := hgo g e.symm; omega)).trans W2.row.out⟩; have t1 := R3.cell 3; have t2 := R3.frozen 3; simp only [List.getElem?_toArray, List.getElem?_cons_succ, List.getElem?_cons_zero] at t1; obtain ⟨x3, c3, hv3⟩ := bytes_form O3; subst hv3))
  have W4 : Wr (w3.setCell ⟨g, 3, none⟩ (.slice x3 (O2.length + s.size) c3)) g h0 h1 h2 (.slice x3 (O2.length + s.size) c3) (O2 ++ strB s) := ⟨R3.set 3 _, bytes_far (bytes_app O3)⟩
  refine bodyPost_end (by simp [results, Try.results48, go_sem]) rfl ⟨rfl, _, ?_, K2.trans (wk_str hgrow hat _), ?_⟩
  · rw [textB, ← List.append_assoc, unhide HO2]; exact W4
  · exact (B2.grown hgrow (by omega) (fun q hq => by have := hgo q hq; omega)).setCell (p := ⟨g, 3, none⟩) (Nat.le_refl _) _

end Go.Proofs.Ytnbeodlgmdenlaa

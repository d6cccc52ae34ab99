/-
  ECB, ECC. Own work.
-/
import Derived.Test.YtddpcehgopeklaaGreatDoorMXAH
import Derived.Test.YtddpcehgopeklaaGreatDoorMXAP
import Derived.MapKept
import Derived.Maps.Own
import Derived.Maps.OwnOps
namespace Go.Proofs.YtddpcehgopeklaaGreatDoor
open Go.RowKit
set_option linter.unusedVariables false

/-- a map of these declarations -/
def MapD (w : World) (mb : Nat) (K : List Dc) : Prop := (K.map Dc.name).Nodup ∧ ∃ (es : Array MapEntry) (cl : Nat), w.heap[mb]? = some (.map es cl) ∧ es.toList.map (fun m => (m.key, m.val)) = K.map (fun d => (Value.string d.name, d.val))

theorem MapD.keep {w w' : World} {mb : Nat} {K : List Dc} (h : MapD w mb K) (hb : w'.heap[mb]? = w.heap[mb]?) : MapD w' mb K := by
  obtain ⟨h0, es, cl, h1, h2⟩ := h
  exact ⟨h0, es, cl, hb.trans h1, h2⟩

theorem MapD.lt {w : World} {mb : Nat} {K : List Dc} (h : MapD w mb K) : mb < w.heap.size := by
  obtain ⟨_, es, cl, h1, _⟩ := h
  exact (Array.getElem?_eq_some_iff.1 h1).1

theorem MapD.below {w w' : World} {mb : Nat} {K : List Dc} (h : MapD w mb K) (hb : Below w.heap.size w w') : MapD w' mb K := h.keep (hb.block mb h.lt)

theorem entries_of {es : Array MapEntry} {K : List Dc} (h : es.toList.map (fun m => (m.key, m.val)) = K.map (fun d => (Value.string d.name, d.val))) : ∀ x ∈ es.toList, ∃ d ∈ K, x.key = .string d.name ∧ x.val = d.val := fun x hx => by
  have : (x.key, x.val) ∈ es.toList.map (fun m => (m.key, m.val)) := List.mem_map.2 ⟨x, hx, rfl⟩
  rw [h] at this
  obtain ⟨d, hd, e⟩ := List.mem_map.1 this
  injection e with e1 e2
  exact ⟨d, hd, e1.symm, e2.symm⟩

theorem find_D {w : World} {mb : Nat} {K : List Dc} (s : ByteArray) {es : Array MapEntry} (h0 : (K.map Dc.name).Nodup) (h2 : es.toList.map (fun m => (m.key, m.val)) = K.map (fun d => (Value.string d.name, d.val))) :
    (fnd K s = none ∧ Instr.findNow .string (.string s) es.toList 0 = some none) ∨ ∃ d j, fnd K s = some d ∧ Instr.findNow .string (.string s) es.toList 0 = some (some (j, d.val)) := by
  have hk : ∀ x ∈ es.toList, MapKept.IsKey .string x.key := fun x hx => by
    obtain ⟨d, _, e, _⟩ := entries_of h2 x hx
    rw [e]; trivial
  rcases MapKept.findNow_spec (d := .string) (k := .string s) trivial es.toList 0 hk with ⟨f1, f2⟩ | ⟨j, e, f1, f2, f3⟩
  · left
    refine ⟨?_, f1⟩
    cases hf : fnd K s with
    | none => rfl
    | some d =>
      exfalso
      obtain ⟨hd, hn⟩ := fnd_mem hf
      have : (Value.string d.name, d.val) ∈ es.toList.map (fun m => (m.key, m.val)) := by rw [h2]; exact List.mem_map.2 ⟨d, hd, rfl⟩
      obtain ⟨x, hx, ex⟩ := List.mem_map.1 this
      injection ex with ex _
      exact f2 x hx (by rw [ex, hn])
  · right
    obtain ⟨d, hd, e1, e2⟩ := entries_of h2 e (List.mem_of_getElem? f2)
    rw [f3] at e1
    injection e1 with e1
    exact ⟨d, 0 + j, by rw [e1]; exact fnd_of h0 hd, by rw [f1, e2]⟩

def lookV (o : Option Dc) : Value := match o with
  | some d => d.val
  | none => .agg #[.bool false, .int .i64 0, .int .i64 0]

theorem look_D (w : World) (mb : Nat) (K : List Dc) (s : ByteArray) (h : MapD w mb K) :
    (Instr.lookup 94 (.map (some mb)) (.string s) true).run Tryz.prog w = .ok (.tuple #[lookV (fnd K s), .bool (fnd K s).isSome]) w := by
  obtain ⟨h0, es, cl, h1, h2⟩ := h
  rcases find_D (w := w) (mb := mb) s h0 h2 with ⟨e, f1⟩ | ⟨d, j, e, f1⟩
  · rw [e]
    simp [lookV, Instr.lookup, run_underlying Tryz.underlying94, MapKept.run_getObj_map h1, MapKept.run_checkKey Tryz.underlying9 (k := .string s) trivial, MapKept.run_findKey Tryz.underlying9 f1, Tryz.zeroValue122]
  · rw [e]
    simp [lookV, Instr.lookup, run_underlying Tryz.underlying94, MapKept.run_getObj_map h1, MapKept.run_checkKey Tryz.underlying9 (k := .string s) trivial, MapKept.run_findKey Tryz.underlying9 f1]

theorem look_D1 (w : World) (mb : Nat) (K : List Dc) (s : ByteArray) (h : MapD w mb K) :
    (Instr.lookup 94 (.map (some mb)) (.string s) false).run Tryz.prog w = .ok (lookV (fnd K s)) w := by
  obtain ⟨h0, es, cl, h1, h2⟩ := h
  rcases find_D (w := w) (mb := mb) s h0 h2 with ⟨e, f1⟩ | ⟨d, j, e, f1⟩
  · rw [e]
    simp [lookV, Instr.lookup, run_underlying Tryz.underlying94, MapKept.run_getObj_map h1, MapKept.run_checkKey Tryz.underlying9 (k := .string s) trivial, MapKept.run_findKey Tryz.underlying9 f1, Tryz.zeroValue122]
  · rw [e]
    simp [lookV, Instr.lookup, run_underlying Tryz.underlying94, MapKept.run_getObj_map h1, MapKept.run_checkKey Tryz.underlying9 (k := .string s) trivial, MapKept.run_findKey Tryz.underlying9 f1]

theorem upd_D (w : World) (mb : Nat) (K : List Dc) (d : Dc) (h : MapD w mb K) (hs : fnd K d.name = none) :
    ∃ w', (Instr.mapUpdate 94 (.map (some mb)) (.string d.name) d.val).run Tryz.prog w = .ok () w' ∧ MapD w' mb (K ++ [d]) ∧ (∀ k, k ≠ mb → w'.heap[k]? = w.heap[k]?) ∧ w'.heap.size = w.heap.size ∧ ∀ B, B ≤ mb → Below B w w' := by
  obtain ⟨h0, es, cl, h1, h2⟩ := h
  rcases find_D (w := w) (mb := mb) d.name h0 h2 with ⟨e, f1⟩ | ⟨d', j, e, f1⟩
  · obtain ⟨g1, g2⟩ := MapKept.heap_set (o' := .map (es.push ⟨.string d.name, d.val, cl⟩) (cl + 1)) h1
    refine ⟨{ w with heap := w.heap.setIfInBounds mb (.map (es.push ⟨.string d.name, d.val, cl⟩) (cl + 1)) }, ?_, ⟨?_, _, _, g1, ?_⟩, g2, by simp, fun B hB => ⟨rfl, rfl, rfl, by simp, fun k hk => g2 k (by omega)⟩⟩
    · simp [Instr.mapUpdate, run_underlying Tryz.underlying94, MapKept.run_getObj_map h1, MapKept.run_checkKey Tryz.underlying9 (k := .string d.name) trivial, MapKept.run_findKey Tryz.underlying9 f1, MapKept.run_setObj_map _ h1]
    · rw [List.map_append, List.nodup_append]
      refine ⟨h0, by simp, fun a ha b hb => ?_⟩
      simp at hb
      subst hb
      exact fun e' => fnd_none e (e' ▸ ha)
    · simp [h2]
  · rw [hs] at e
    cases e

theorem wpList_lookD {ops : Array Oper} {rest : List Oper} {o : Oper} {a : Act} {Q : Exit → Act → World → Prop} {w : World} (hg : o.guard = none) (m x : Operand) (hop : o.op = Op.lookup 94 m x true) (mb : Nat) (D : List Dc) (s : ByteArray)
    (hm : a.eval m = .map (some mb)) (hx : a.eval x = .string s) (h : MapD w mb D) (b f : Bool) (n t : Int) (hv : lookV (fnd D s) = .agg #[.bool b, .int .i64 n, .int .i64 t]) (hf : (fnd D s).isSome = f)
    (hK : wpList Tryz.prog ops Q rest (a.put o.dst (.tuple #[.agg #[.bool b, .int .i64 n, .int .i64 t], .bool f])) w) : wpList Tryz.prog ops Q (o :: rest) a w := by
  refine wpList_plain hg fun K' hK' => ?_
  unfold Oper.wp
  have hl := look_D w mb D s h
  rw [hv, hf] at hl
  simp [execOp, hop, hm, hx, hl, Result.andThen]
  exact hK' _ _ hK

set_option maxHeartbeats 800000 in
set_option maxRecDepth 100000 in
theorem typeOfName_any (cb mb : Nat) (D : List Dc) (s : ByteArray) (aN aA : Addr) (w : World) (hE : Eok w aN aA) (hc : w.cell? ⟨cb, 0, none⟩ = some (.map (some mb))) (hM : MapD w mb D) :
    Calls Tryz.prog 119 #[.pointer (some ⟨cb, 0, none⟩), .string s] w fun r w' => OtAns ((fnd D s).map Dc.typ) aN r ∧ Below w.heap.size w w' := by
  have nc := hE.nc
  have HM := hide hM
  have B0 := (Below.refl w.heap.size w).alloc (Nat.le_refl _) (.cells #[.bool false, .int .i64 0, .int .i64 0] 122)
  have HB := hide ((unhide HM).below B0)
  have hlt := hE.n
  clear hM
  cases hf : fnd D s with
  | none =>
    have hv : lookV (fnd D s) = .agg #[.bool false, .int .i64 0, .int .i64 0] := by rw [hf]; rfl
    have hi : (fnd D s).isSome = false := by rw [hf]; rfl
    have HV := hide hv
    have HI := hide hi
    clear hv hi hf
    go_enter Tryz.func119, Tryz.ntmps119
    go_wp2_with (first | (refine wpList_lookD rfl _ _ rfl mb D s rfl rfl (unhide HM) false false 0 0 (unhide HV) (unhide HI) ?_) | (refine wpList_lookD rfl _ _ rfl mb D s rfl rfl (unhide HB) false false 0 0 (unhide HV) (unhide HI) ?_))
    have nc2 := (B0.cell (p := ⟨9, 0, none⟩) hlt).trans nc
    go_region
    all_goals
      go_wp2_with fail
      exact bodyPost_ret (v := .tuple #[.int .i64 0, .iface 224 (.pointer (some aN))]) (by simp [results, Tryz.results119, go_sem]) rfl ⟨rfl, B0.drew⟩
  | some d =>
    have hv : lookV (fnd D s) = .agg #[.bool d.isLet, .int .i64 d.num, .int .i64 d.typ] := by rw [hf]; rfl
    have hi : (fnd D s).isSome = true := by rw [hf]; rfl
    have HV := hide hv
    have HI := hide hi
    clear hv hi hf
    go_enter Tryz.func119, Tryz.ntmps119
    go_wp2_with (first | (refine wpList_lookD rfl _ _ rfl mb D s rfl rfl (unhide HM) d.isLet true d.num d.typ (unhide HV) (unhide HI) ?_) | (refine wpList_lookD rfl _ _ rfl mb D s rfl rfl (unhide HB) d.isLet true d.num d.typ (unhide HV) (unhide HI) ?_))
    exact bodyPost_ret (v := .tuple #[.int .i64 d.typ, .nilIface]) (by simp [results, Tryz.results119, go_sem]) rfl ⟨rfl, (Below.refl w.heap.size w).alloc (Nat.le_refl _) _⟩

end Go.Proofs.YtddpcehgopeklaaGreatDoor

namespace Go.Proofs.YtddpcehgopeklaaGreatDoor
open Go.RowKit
set_option linter.unusedVariables false

set_option maxHeartbeats 1600000 in
set_option maxRecDepth 100000 in
theorem above_name (cb : Nat) (i : Int) (s : ByteArray) (mb : Nat) (D : List Dc) (ka : Option Addr) (kn kc : Nat) (ks : List Int) (aT aN aA : Addr) (w : World) (hV : Vok w aT) (hE : Eok w aN aA) (hK : Ints w ka kn kc ks) (hc : w.cell? ⟨cb, 0, none⟩ = some (.map (some mb))) (hcb : cb < w.heap.size) (hM : MapD w mb D) :
    Calls Tryz.prog 113 #[.pointer (some ⟨cb, 0, none⟩), .iface 127 (.agg #[.int .i64 i, .string s]), .slice ka kn kc] w fun r w' => OtAns ((fnd D s).map Dc.typ) aN r ∧ Below w.heap.size w w' := by
  have a0 := ta_miss (S := 127) (T := 198) Tryz.underlying198 Tryz.zeroValue198 (by decide) 88
  have a1 := ta_miss (S := 127) (T := 200) Tryz.underlying200 Tryz.zeroValue200 (by decide) 88
  have a2 := ta_miss (S := 127) (T := 202) Tryz.underlying202 Tryz.zeroValue202 (by decide) 88
  have a3 := ta_miss (S := 127) (T := 204) Tryz.underlying204 Tryz.zeroValue204 (by decide) 88
  have a4 := ta_hit (T := 127) Tryz.underlying127 88
  have B0 := (Below.refl w.heap.size w).alloc (Nat.le_refl _) (.cells #[.int .i64 i, .string s] 127)
  have HC := hide (typeOfName_any cb mb D s aN aA _ (hE.below B0 (Nat.le_refl _)) ((B0.cell (p := ⟨cb, 0, none⟩) hcb).trans hc) (hM.below B0))
  generalize (fnd D s).map Dc.typ = ot at HC ⊢
  clear hV hE hK hc hcb hM
  go_enter Tryz.func113, Tryz.ntmps113
  go_wp2_with fail
  refine (unhide HC).mono ?_
  rintro r w2 ⟨hr, hb2⟩
  have B2 := B0.trans (hb2.mono B0.size)
  change r = _ at hr
  subst hr
  cases ot with
  | some t =>
    dsimp only [Option.getD, Option.isSome, errT]
    go_wp2_with fail
    exact bodyPost_ret (v := .tuple #[.int .i64 t, .nilIface]) (by simp [results, Tryz.results113, go_sem]) rfl ⟨rfl, B2⟩
  | none =>
    dsimp only [Option.getD, Option.isSome, errT]
    go_wp2_with fail
    exact bodyPost_ret (v := .tuple #[.int .i64 0, .iface 224 (.pointer (some aN))]) (by simp [results, Tryz.results113, go_sem]) rfl ⟨rfl, B2⟩

set_option maxHeartbeats 1600000 in
set_option maxRecDepth 100000 in
theorem aboveX_un (cb : Nat) (i op : Int) (t : TypeId) (u : Value) (ka : Option Addr) (kn kc : Nat) (a : Int) (aT aN aA : Addr) (w : World) (hV : Vok w aT) (hE : Eok w aN aA) (hK : Ints w ka kn kc [a]) (hop : 8 ≤ op ∧ op ≤ 10) (ha : 1 ≤ a ∧ a ≤ 4) :
    Calls Tryz.prog 113 #[.pointer (some ⟨cb, 0, none⟩), .iface 168 (.agg #[.int .i64 i, .int .i64 op, .iface t u]), .slice ka kn kc] w fun r w' => OtAns (nz (tyOp op [a])) aT r ∧ Below w.heap.size w w' := by
  have a0 := ta_miss (S := 168) (T := 198) Tryz.underlying198 Tryz.zeroValue198 (by decide) 88
  have a1 := ta_miss (S := 168) (T := 200) Tryz.underlying200 Tryz.zeroValue200 (by decide) 88
  have a2 := ta_miss (S := 168) (T := 202) Tryz.underlying202 Tryz.zeroValue202 (by decide) 88
  have a3 := ta_miss (S := 168) (T := 204) Tryz.underlying204 Tryz.zeroValue204 (by decide) 88
  have a4 := ta_miss (S := 168) (T := 127) Tryz.underlying127 Tryz.zeroValue127 (by decide) 88
  have a5 := ta_miss (S := 168) (T := 131) Tryz.underlying131 Tryz.zeroValue131 (by decide) 88
  have a6 := ta_miss (S := 168) (T := 130) Tryz.underlying130 Tryz.zeroValue130 (by decide) 88
  have a7 := ta_hit (T := 168) Tryz.underlying168 88
  obtain ⟨bk, ok, rfl, lk, ck0⟩ := hK.cells 0 (by simp)
  obtain rfl : kn = 1 := hK.len.symm
  simp only [List.getElem_cons_zero, Nat.add_zero] at ck0
  have B0 := (Below.refl w.heap.size w).alloc (Nat.le_refl _) (.cells #[.int .i64 i, .int .i64 op, .iface t u] 168)
  have R0 := Row.new w #[.int .i64 i, .int .i64 op, .iface t u] 168
  have V0 := hV.below B0 (Nat.le_refl _)
  have HC := hide (fun W hW => operationType_any op a 0 aT W hW)
  rw [opT_un hop a ha] at HC
  generalize nz (tyOp op [a]) = ot at HC ⊢
  clear hK hE hV
  go_enter Tryz.func113, Tryz.ntmps113
  have W0E : ∃ W0, W0 = w.alloc (.cells #[.int .i64 i, .int .i64 op, .iface t u] 168) := ⟨_, rfl⟩
  go_wp2_with fail
  obtain ⟨W0, hW0⟩ := W0E
  rw [← hW0] at B0 R0 V0 ⊢
  have C0 := (B0.cell (p := ⟨bk, ok, none⟩) lk).trans ck0
  have CO : W0.cell? ⟨w.heap.size, 1, none⟩ = some (.int .i64 op) := R0.cell 1
  have LR := R0.lt
  have LK : bk < W0.heap.size := Nat.lt_of_lt_of_le lk B0.size
  have D1 : Below W0.heap.size W0 W0.drew := (Below.refl _ _).drew
  have keep : ∀ w', Below W0.heap.size W0 w' → w'.cell? ⟨bk, ok, none⟩ = some (.int .i64 a) ∧ w'.cell? ⟨w.heap.size, 1, none⟩ = some (.int .i64 op) := fun w' hb => ⟨(hb.cell (p := ⟨bk, ok, none⟩) LK).trans C0, (hb.cell (p := ⟨w.heap.size, 1, none⟩) LR).trans CO⟩
  have KP := hide keep
  have q1 := keep _ D1
  have V1 := V0.below D1 (Nat.le_refl _)
  clear hW0 R0 keep V0 ck0 C0 CO
  go_region_held3 (fun w' => w'.cell? ⟨bk, ok, none⟩ = some (.int .i64 a) ∧ w'.cell? ⟨w.heap.size, 1, none⟩ = some (.int .i64 op)) (first | assumption | go_keep)
    (first | (go_at_call 121; refine (unhide HC _ V1).mono ?_; rintro r w2 ⟨hr, hb2⟩; change r = _ at hr; subst hr; have G2 := D1.trans (hb2.mono D1.size); have q2 := unhide KP _ G2))
  go_wp2_with fail
  exact bodyPost_ret (v := .tuple #[.int .i64 (ot.getD 0), errT ot.isSome aT]) (by simp [results, Tryz.results113, go_sem]) rfl ⟨rfl, B0.trans (G2.mono B0.size)⟩

set_option maxHeartbeats 1600000 in
set_option maxRecDepth 100000 in
theorem aboveX_bin (cb : Nat) (i op : Int) (t : TypeId) (u : Value) (t' : TypeId) (u' : Value) (ka : Option Addr) (kn kc : Nat) (a b : Int) (aT aN aA : Addr) (w : World) (hV : Vok w aT) (hE : Eok w aN aA) (hK : Ints w ka kn kc [a, b]) (hop : 11 ≤ op ∧ op ≤ 26) (ha : 1 ≤ a ∧ a ≤ 4) (hb : 1 ≤ b ∧ b ≤ 4) :
    Calls Tryz.prog 113 #[.pointer (some ⟨cb, 0, none⟩), .iface 170 (.agg #[.int .i64 i, .int .i64 op, .iface t u, .iface t' u']), .slice ka kn kc] w fun r w' => OtAns (nz (tyOp op [a, b])) aT r ∧ Below w.heap.size w w' := by
  have a0 := ta_miss (S := 170) (T := 198) Tryz.underlying198 Tryz.zeroValue198 (by decide) 88
  have a1 := ta_miss (S := 170) (T := 200) Tryz.underlying200 Tryz.zeroValue200 (by decide) 88
  have a2 := ta_miss (S := 170) (T := 202) Tryz.underlying202 Tryz.zeroValue202 (by decide) 88
  have a3 := ta_miss (S := 170) (T := 204) Tryz.underlying204 Tryz.zeroValue204 (by decide) 88
  have a4 := ta_miss (S := 170) (T := 127) Tryz.underlying127 Tryz.zeroValue127 (by decide) 88
  have a5 := ta_miss (S := 170) (T := 131) Tryz.underlying131 Tryz.zeroValue131 (by decide) 88
  have a6 := ta_miss (S := 170) (T := 130) Tryz.underlying130 Tryz.zeroValue130 (by decide) 88
  have a7 := ta_miss (S := 170) (T := 168) Tryz.underlying168 Tryz.zeroValue168 (by decide) 88
  have a8 := ta_hit (T := 170) Tryz.underlying170 88
  obtain ⟨bk, ok, rfl, lk, ck0⟩ := hK.cells 0 (by simp)
  have ck1 : w.cell? ⟨bk, ok + 1, none⟩ = some (.int .i64 b) := by
    obtain ⟨b2, o2, e2, _, c2⟩ := hK.cells 1 (by simp)
    obtain ⟨rfl, rfl⟩ : bk = b2 ∧ ok = o2 := by simpa using e2
    simpa using c2
  obtain rfl : kn = 2 := hK.len.symm
  simp only [List.getElem_cons_zero, Nat.add_zero] at ck0
  have B0 := (Below.refl w.heap.size w).alloc (Nat.le_refl _) (.cells #[.int .i64 i, .int .i64 op, .iface t u, .iface t' u'] 170)
  have R0 := Row.new w #[.int .i64 i, .int .i64 op, .iface t u, .iface t' u'] 170
  have V0 := hV.below B0 (Nat.le_refl _)
  have HC := hide (fun W hW => operationType_any op a b aT W hW)
  rw [opT_bin hop a b ha hb] at HC
  generalize nz (tyOp op [a, b]) = ot at HC ⊢
  clear hb
  clear hK hE hV
  go_enter Tryz.func113, Tryz.ntmps113
  have W0E : ∃ W0, W0 = w.alloc (.cells #[.int .i64 i, .int .i64 op, .iface t u, .iface t' u'] 170) := ⟨_, rfl⟩
  go_wp2_with fail
  obtain ⟨W0, hW0⟩ := W0E
  rw [← hW0] at B0 R0 V0 ⊢
  have C0 := (B0.cell (p := ⟨bk, ok, none⟩) lk).trans ck0
  have C1 := (B0.cell (p := ⟨bk, ok + 1, none⟩) lk).trans ck1
  have CO : W0.cell? ⟨w.heap.size, 1, none⟩ = some (.int .i64 op) := R0.cell 1
  have LR := R0.lt
  have LK : bk < W0.heap.size := Nat.lt_of_lt_of_le lk B0.size
  have D1 : Below W0.heap.size W0 W0.drew := (Below.refl _ _).drew
  have keep : ∀ w', Below W0.heap.size W0 w' → w'.cell? ⟨bk, ok, none⟩ = some (.int .i64 a) ∧ w'.cell? ⟨bk, ok + 1, none⟩ = some (.int .i64 b) ∧ w'.cell? ⟨w.heap.size, 1, none⟩ = some (.int .i64 op) := fun w' hb => ⟨(hb.cell (p := ⟨bk, ok, none⟩) LK).trans C0, (hb.cell (p := ⟨bk, ok + 1, none⟩) LK).trans C1, (hb.cell (p := ⟨w.heap.size, 1, none⟩) LR).trans CO⟩
  have KP := hide keep
  have q1 := keep _ D1
  have V1 := V0.below D1 (Nat.le_refl _)
  clear hW0 R0 keep V0 ck0 C0 ck1 C1 CO
  go_region_held3 (fun w' => w'.cell? ⟨bk, ok, none⟩ = some (.int .i64 a) ∧ w'.cell? ⟨bk, ok + 1, none⟩ = some (.int .i64 b) ∧ w'.cell? ⟨w.heap.size, 1, none⟩ = some (.int .i64 op)) (first | assumption | go_keep)
    (first | (go_at_call 121; refine (unhide HC _ V1).mono ?_; rintro r w2 ⟨hr, hb2⟩; change r = _ at hr; subst hr; have G2 := D1.trans (hb2.mono D1.size); have q2 := unhide KP _ G2))
  go_wp2_with fail
  exact bodyPost_ret (v := .tuple #[.int .i64 (ot.getD 0), errT ot.isSome aT]) (by simp [results, Tryz.results113, go_sem]) rfl ⟨rfl, B0.trans (G2.mono B0.size)⟩

set_option maxHeartbeats 1600000 in
set_option maxRecDepth 100000 in
theorem aboveX_ite (cb : Nat) (i : Int) (t : TypeId) (u : Value) (t' : TypeId) (u' : Value) (t2 : TypeId) (u2 : Value) (ka : Option Addr) (kn kc : Nat) (a b d : Int) (aT aN aA : Addr) (w : World) (hV : Vok w aT) (hE : Eok w aN aA) (hK : Ints w ka kn kc [a, b, d]) (hb : 1 ≤ b ∧ b ≤ 4) :
    Calls Tryz.prog 113 #[.pointer (some ⟨cb, 0, none⟩), .iface 172 (.agg #[.int .i64 i, .iface t u, .iface t' u', .iface t2 u2]), .slice ka kn kc] w fun r w' => OtAns (nz (tyOp 27 [a, b, d])) aT r ∧ Below w.heap.size w w' := by
  have a0 := ta_miss (S := 172) (T := 198) Tryz.underlying198 Tryz.zeroValue198 (by decide) 88
  have a1 := ta_miss (S := 172) (T := 200) Tryz.underlying200 Tryz.zeroValue200 (by decide) 88
  have a2 := ta_miss (S := 172) (T := 202) Tryz.underlying202 Tryz.zeroValue202 (by decide) 88
  have a3 := ta_miss (S := 172) (T := 204) Tryz.underlying204 Tryz.zeroValue204 (by decide) 88
  have a4 := ta_miss (S := 172) (T := 127) Tryz.underlying127 Tryz.zeroValue127 (by decide) 88
  have a5 := ta_miss (S := 172) (T := 131) Tryz.underlying131 Tryz.zeroValue131 (by decide) 88
  have a6 := ta_miss (S := 172) (T := 130) Tryz.underlying130 Tryz.zeroValue130 (by decide) 88
  have a7 := ta_miss (S := 172) (T := 168) Tryz.underlying168 Tryz.zeroValue168 (by decide) 88
  have a8 := ta_miss (S := 172) (T := 170) Tryz.underlying170 Tryz.zeroValue170 (by decide) 88
  have a9 := ta_hit (T := 172) Tryz.underlying172 88
  obtain ⟨bk, ok, rfl, lk, ck0⟩ := hK.cells 0 (by simp)
  have ck1 : w.cell? ⟨bk, ok + 1, none⟩ = some (.int .i64 b) := by
    obtain ⟨b2, o2, e2, _, c2⟩ := hK.cells 1 (by simp)
    obtain ⟨rfl, rfl⟩ : bk = b2 ∧ ok = o2 := by simpa using e2
    simpa using c2
  have ck2 : w.cell? ⟨bk, ok + 2, none⟩ = some (.int .i64 d) := by
    obtain ⟨b2, o2, e2, _, c2⟩ := hK.cells 2 (by simp)
    obtain ⟨rfl, rfl⟩ : bk = b2 ∧ ok = o2 := by simpa using e2
    simpa using c2
  obtain rfl : kn = 3 := hK.len.symm
  simp only [List.getElem_cons_zero, Nat.add_zero] at ck0
  have B0 := (Below.refl w.heap.size w).alloc (Nat.le_refl _) (.cells #[.int .i64 i, .iface t u, .iface t' u', .iface t2 u2] 172)
  have R0 := Row.new w #[.int .i64 i, .iface t u, .iface t' u', .iface t2 u2] 172
  have V0 := hV.below B0 (Nat.le_refl _)
  have HC := hide (fun W hW => choiceType_any a b d aT W hW hb)
  generalize nz (tyOp 27 [a, b, d]) = ot at HC ⊢
  clear hb
  clear hK hE hV
  go_enter Tryz.func113, Tryz.ntmps113
  have W0E : ∃ W0, W0 = w.alloc (.cells #[.int .i64 i, .iface t u, .iface t' u', .iface t2 u2] 172) := ⟨_, rfl⟩
  go_wp2_with fail
  obtain ⟨W0, hW0⟩ := W0E
  rw [← hW0] at B0 R0 V0 ⊢
  have C0 := (B0.cell (p := ⟨bk, ok, none⟩) lk).trans ck0
  have C1 := (B0.cell (p := ⟨bk, ok + 1, none⟩) lk).trans ck1
  have C2 := (B0.cell (p := ⟨bk, ok + 2, none⟩) lk).trans ck2
  have LR := R0.lt
  have LK : bk < W0.heap.size := Nat.lt_of_lt_of_le lk B0.size
  have D1 : Below W0.heap.size W0 W0.drew := (Below.refl _ _).drew
  have keep : ∀ w', Below W0.heap.size W0 w' → w'.cell? ⟨bk, ok, none⟩ = some (.int .i64 a) ∧ w'.cell? ⟨bk, ok + 1, none⟩ = some (.int .i64 b) ∧ w'.cell? ⟨bk, ok + 2, none⟩ = some (.int .i64 d) := fun w' hb => ⟨(hb.cell (p := ⟨bk, ok, none⟩) LK).trans C0, (hb.cell (p := ⟨bk, ok + 1, none⟩) LK).trans C1, (hb.cell (p := ⟨bk, ok + 2, none⟩) LK).trans C2⟩
  have KP := hide keep
  have q1 := keep _ D1
  have V1 := V0.below D1 (Nat.le_refl _)
  clear hW0 R0 keep V0 ck0 C0 ck1 C1 ck2 C2
  go_region_held3 (fun w' => w'.cell? ⟨bk, ok, none⟩ = some (.int .i64 a) ∧ w'.cell? ⟨bk, ok + 1, none⟩ = some (.int .i64 b) ∧ w'.cell? ⟨bk, ok + 2, none⟩ = some (.int .i64 d)) (first | assumption | go_keep)
    (first | (go_at_call 122; refine (unhide HC _ V1).mono ?_; rintro r w2 ⟨hr, hb2⟩; change r = _ at hr; subst hr; have G2 := D1.trans (hb2.mono D1.size); have q2 := unhide KP _ G2))
  go_wp2_with fail
  exact bodyPost_ret (v := .tuple #[.int .i64 (ot.getD 0), errT ot.isSome aT]) (by simp [results, Tryz.results113, go_sem]) rfl ⟨rfl, B0.trans (G2.mono B0.size)⟩

end Go.Proofs.YtddpcehgopeklaaGreatDoor

/-
  COC, COD, EM0, ES0, EX00, KG0, COE, COF, COG, ES, EV. Own work.
-/
import Derived.Test.YtpbopjgmiaoomaaGreatDoorMXAF
import Derived.Test.YtpbopjgmiaoomaaGreatDoorMXAE
import Derived.Lib.AppendStr
import Derived.Test.YtpbopjgmiaoomaaGreatDoorMXAD
import Derived.Laws.OwnMore
import Derived.MapKept
import Derived.Maps.Own
import Derived.Maps.OwnOps
import Derived.Deep.AppendLies
import Derived.Deep.RegionLaw
namespace Go.Proofs.YtpbopjgmiaoomaaGreatDoor
open Go.RowKit
set_option linter.unusedVariables false

/-- a number of 64 bits -/
def R64 (a : Int) : Prop := -9223372036854775808 ≤ a ∧ a ≤ 9223372036854775807

/-- a value that its bytes tell -/
def okW (v : Vl) : Prop := (v.kind = 1 ∧ (v.num = 0 ∨ v.num = 1) ∧ v.text = ⟨#[]⟩ ∧ v.names = []) ∨ (v.kind = 2 ∧ R64 v.num ∧ v.text = ⟨#[]⟩ ∧ v.names = []) ∨ (v.kind = 3 ∧ v.text.size ≤ 255 ∧ v.num = 0 ∧ v.names = []) ∨ (v.kind = 4 ∧ v.names.length ≤ 255 ∧ (∀ s ∈ v.names, s.size ≤ 255) ∧ v.num = 0 ∧ v.text = ⟨#[]⟩)

theorem strB_inj {s t : ByteArray} (h : strB s = strB t) : s = t := by
  have q : s.data.toList = t.data.toList := by
    apply List.map_inj_right (f := fun b : UInt8 => (b.toNat : Int)) (fun x y e => ?_) |>.1 h
    exact UInt8.toNat_inj.1 (by exact_mod_cast e)
  cases s; cases t
  simpa using q

theorem beB_one (n : Nat) (h : n ≤ 255) : beB (n : Int) 1 = [(n : Int)] := by
  simp [beB, byteAt]; omega

theorem textB_app {s t : ByteArray} (hs : s.size ≤ 255) (ht : t.size ≤ 255) {X Y : List Int} (h : textB s ++ X = textB t ++ Y) : s = t ∧ X = Y := by
  unfold textB at h
  rw [beB_one _ hs, beB_one _ ht] at h
  simp only [List.cons_append, List.nil_append, List.cons.injEq] at h
  have hl : (strB s).length = (strB t).length := by rw [strB_len, strB_len]; omega
  obtain ⟨h1, h2⟩ := List.append_inj h.2 hl
  exact ⟨strB_inj h1, h2⟩

theorem names_inj : ∀ (A B : List ByteArray), A.length = B.length → (∀ s ∈ A, s.size ≤ 255) → (∀ s ∈ B, s.size ≤ 255) → A.flatMap textB = B.flatMap textB → A = B
  | [], [], _, _, _, _ => rfl
  | [], _ :: _, h, _, _, _ => by simp at h
  | _ :: _, [], h, _, _, _ => by simp at h
  | s :: A, t :: B, h, hA, hB, e => by
    rw [List.flatMap_cons, List.flatMap_cons] at e
    obtain ⟨h1, h2⟩ := textB_app (hA s (List.mem_cons_self ..)) (hB t (List.mem_cons_self ..)) e
    rw [h1, names_inj A B (by simpa using h) (fun x hx => hA x (List.mem_cons_of_mem _ hx)) (fun x hx => hB x (List.mem_cons_of_mem _ hx)) h2]

theorem num8_inj {x y : Int} (hx : R64 x) (hy : R64 y) (h : beB x 8 = beB y 8) : x = y := by
  simp only [beB, List.cons.injEq, and_true, byteAt, Nat.reduceMul] at h
  obtain ⟨h7, h6, h5, h4, h3, h2, h1, h0⟩ := h
  obtain ⟨a, b⟩ := hx
  obtain ⟨c, d⟩ := hy
  simp only [Int.reducePow] at h7 h6 h5 h4 h3 h2 h1 h0
  omega

theorem valE_inj {v u : Vl} (hv : okW v) (hu : okW u) (h : valE v = valE u) : v = u := by
  obtain ⟨kv, nv, tv, sv⟩ := v
  obtain ⟨ku, nu, tu, su⟩ := u
  have kinds : ∀ k k' : Int, (1 ≤ k ∧ k ≤ 4) → (1 ≤ k' ∧ k' ≤ 4) → ∀ X Y, beB k 1 ++ X = beB k' 1 ++ Y → k = k' ∧ X = Y := fun k k' hk hk' X Y e => by
    have e1 : beB k 1 = [k] := by simp [beB, byteAt]; omega
    have e2 : beB k' 1 = [k'] := by simp [beB, byteAt]; omega
    rw [e1, e2] at e
    simpa using e
  have rng : ∀ w : Vl, okW w → 1 ≤ w.kind ∧ w.kind ≤ 4 := fun w hw => by
    rcases hw with ⟨e, _⟩ | ⟨e, _⟩ | ⟨e, _⟩ | ⟨e, _⟩ <;> omega
  obtain ⟨hk, hX⟩ := kinds _ _ (rng _ hv) (rng _ hu) _ _ h
  dsimp only at hk hX
  subst hk
  rcases hv with ⟨e, h1, h2, h3⟩ | ⟨e, h1, h2, h3⟩ | ⟨e, h1, h2, h3⟩ | ⟨e, h1, h2, h3, h4⟩
  · rcases hu with ⟨_, g1, g2, g3⟩ | ⟨q, _⟩ | ⟨q, _⟩ | ⟨q, _⟩
    · dsimp only at e h1 h2 h3 g1 g2 g3
      subst e h2 h3 g2 g3
      rw [if_pos rfl, if_pos rfl] at hX
      have : nv = nu := by
        simp [beB, byteAt] at hX
        omega
      rw [this]
    all_goals (dsimp only at e q; omega)
  · rcases hu with ⟨q, _⟩ | ⟨_, g1, g2, g3⟩ | ⟨q, _⟩ | ⟨q, _⟩
    rotate_left
    · dsimp only at e h1 h2 h3 g1 g2 g3
      subst e h2 h3 g2 g3
      rw [if_neg (by decide), if_pos rfl, if_neg (by decide), if_pos rfl] at hX
      rw [num8_inj h1 g1 hX]
    all_goals (dsimp only at e q; omega)
  · rcases hu with ⟨q, _⟩ | ⟨q, _⟩ | ⟨_, g1, g2, g3⟩ | ⟨q, _⟩
    rotate_left 2
    · dsimp only at e h1 h2 h3 g1 g2 g3
      subst e h2 h3 g2 g3
      rw [if_neg (by decide), if_neg (by decide), if_pos rfl, if_neg (by decide), if_neg (by decide), if_pos rfl] at hX
      rw [(textB_app h1 g1 (X := []) (Y := []) (by simpa using hX)).1]
    all_goals (dsimp only at e q; omega)
  · rcases hu with ⟨q, _⟩ | ⟨q, _⟩ | ⟨q, _⟩ | ⟨_, g1, g2, g3, g4⟩
    rotate_left 3
    · dsimp only at e h1 h2 h3 h4 g1 g2 g3 g4
      subst e h3 h4 g3 g4
      rw [if_neg (by decide), if_neg (by decide), if_neg (by decide), if_pos rfl, if_neg (by decide), if_neg (by decide), if_neg (by decide), if_pos rfl, beB_one _ h1, beB_one _ g1] at hX
      simp only [List.cons_append, List.nil_append, List.cons.injEq] at hX
      rw [names_inj sv su (by omega) h2 g2 hX.2]
    all_goals (dsimp only at e q; omega)

end Go.Proofs.YtpbopjgmiaoomaaGreatDoor

namespace Go.Proofs.YtpbopjgmiaoomaaGreatDoor
open Go.RowKit
set_option linter.unusedVariables false

theorem findV_some {v : Vl} : ∀ {P : List Vl} {a k : Nat}, findV v P a = some k → a ≤ k ∧ ∃ h : k - a < P.length, P[k - a] = v
  | [], a, k, h => by cases h
  | u :: r, a, k, h => by
    rw [findV] at h
    by_cases e : u = v
    · rw [if_pos e] at h
      cases h
      exact ⟨Nat.le_refl _, by simp, by simp [e]⟩
    · rw [if_neg e] at h
      obtain ⟨h1, h2, h3⟩ := findV_some h
      refine ⟨by omega, by simp; omega, ?_⟩
      have : k - a = (k - (a + 1)) + 1 := by omega
      simp only [this, List.getElem_cons_succ]
      exact h3

theorem findV_none {v : Vl} : ∀ {P : List Vl} {a : Nat}, findV v P a = none → v ∉ P
  | [], a, _ => by simp
  | u :: r, a, h => by
    rw [findV] at h
    by_cases e : u = v
    · rw [if_pos e] at h; cases h
    · rw [if_neg e] at h
      intro hm
      rcases List.mem_cons.1 hm with q | q
      · exact e q.symm
      · exact findV_none h q

theorem findV_mem {v : Vl} {P : List Vl} {a : Nat} (h : v ∈ P) : ∃ k, findV v P a = some k := by
  cases q : findV v P a with
  | none => exact absurd h (findV_none q)
  | some k => exact ⟨k, rfl⟩

/-- where no value lies twice, it is found where it lies -/
theorem findV_at {v : Vl} {P : List Vl} (hn : P.Nodup) {j : Nat} (hj : j < P.length) (e : P[j] = v) : findV v P 0 = some j := by
  obtain ⟨k, hk⟩ := findV_mem (a := 0) (show v ∈ P from e ▸ List.getElem_mem hj)
  obtain ⟨_, h2, h3⟩ := findV_some hk
  have : k = j := by
    have q := (List.getElem_inj (h₀ := h2) (h₁ := hj) hn).1 (h3.trans e.symm)
    omega
  rw [hk, this]

end Go.Proofs.YtpbopjgmiaoomaaGreatDoor

namespace Go.Proofs.YtpbopjgmiaoomaaGreatDoor
open Go.RowKit
set_option linter.unusedVariables false

/-- One value, at a place. -/
def VlAt (w : World) (b o : Nat) (x : Vl) : Prop := ∃ an nn cn, w.cell? ⟨b, o, none⟩ = some (.int .i64 x.kind) ∧ w.cell? ⟨b, o + 1, none⟩ = some (.int .i64 x.num) ∧ w.cell? ⟨b, o + 2, none⟩ = some (.string x.text) ∧ w.cell? ⟨b, o + 3, none⟩ = some (.slice an nn cn) ∧ Strs w an nn cn x.names

structure Vls (w : World) (a : Option Addr) (n c : Nat) (L : List Vl) : Prop where
  len : L.length = n
  small : n ≤ 1048576
  sizes : ∀ x ∈ L, x.text.size ≤ 1048576
  cells : ∀ j, (h : j < L.length) → ∃ b off, a = some ⟨b, off, none⟩ ∧ b < w.heap.size ∧ VlAt w b (off + j * 4) L[j]

structure Iss (w : World) (a : Option Addr) (n c : Nat) (L : List Is1) : Prop where
  len : L.length = n
  small : n ≤ 1048576
  cells : ∀ j, (h : j < L.length) → ∃ b off, a = some ⟨b, off, none⟩ ∧ b < w.heap.size ∧ w.cell? ⟨b, off + j * 2, none⟩ = some (.int .i64 L[j].op) ∧ w.cell? ⟨b, off + j * 2 + 1, none⟩ = some (.int .i64 L[j].arg)

theorem VlAt.below {w w' : World} {B b o : Nat} {x : Vl} (h : VlAt w b o x) (hl : b < w.heap.size) (hb : Below B w w') (hB : w.heap.size ≤ B) : VlAt w' b o x := by
  obtain ⟨an, nn, cn, c0, c1, c2, c3, hN⟩ := h
  have hl' : b < B := by omega
  exact ⟨an, nn, cn, (hb.cell (p := ⟨b, o, none⟩) hl').trans c0, (hb.cell (p := ⟨b, o + 1, none⟩) hl').trans c1, (hb.cell (p := ⟨b, o + 2, none⟩) hl').trans c2, (hb.cell (p := ⟨b, o + 3, none⟩) hl').trans c3, hN.below hb hB⟩

theorem Vls.below {w w' : World} {B : Nat} {a : Option Addr} {n c : Nat} {L : List Vl} (h : Vls w a n c L) (hb : Below B w w') (hB : w.heap.size ≤ B) : Vls w' a n c L :=
  ⟨h.len, h.small, h.sizes, fun j hj => by
    obtain ⟨b, off, ha, hl, hc⟩ := h.cells j hj
    exact ⟨b, off, ha, Nat.lt_of_lt_of_le hl hb.size, hc.below hl hb hB⟩⟩

theorem Iss.below {w w' : World} {B : Nat} {a : Option Addr} {n c : Nat} {L : List Is1} (h : Iss w a n c L) (hb : Below B w w') (hB : w.heap.size ≤ B) : Iss w' a n c L :=
  ⟨h.len, h.small, fun j hj => by
    obtain ⟨b, off, ha, hl, c0, c1⟩ := h.cells j hj
    have hl' : b < B := by omega
    exact ⟨b, off, ha, Nat.lt_of_lt_of_le hl hb.size, (hb.cell (p := ⟨b, off + j * 2, none⟩) hl').trans c0, (hb.cell (p := ⟨b, off + j * 2 + 1, none⟩) hl').trans c1⟩⟩

end Go.Proofs.YtpbopjgmiaoomaaGreatDoor

namespace Go.Proofs.YtpbopjgmiaoomaaGreatDoor
open Go.RowKit Go.Lib
set_option linter.unusedVariables false


theorem strCells_eq (s : ByteArray) : strCells s = bytesV (strB s) := by
  simp [strCells, bytesV, strB]

theorem run_append_str_lies {P : Program} {w : World} (base : Nat) (t u ty e : TypeId) (i : TypeInfo) (ht : P.underlying t = some (.slice e)) (hu : P.underlying u = some .string) (hi : P.info? e = some i) (hz : i.zero = some (.int .u8 0))
    (hsize : i.size = 1) (hby : i.bytes = 1) (v : Value) (n : Nat) (xs : List Value) (hown : w.ownsRow base e 1 v n xs) (s : ByteArray)
    (h63 : n + s.size ≤ maxLen) (hbytes : n + s.size ≤ 140737488355328) (hbase : base ≤ w.heap.size) :
    ∃ v' w', (Builtin.append_ #[t, u] ty #[v, .string s]).run P w = .ok v' w' ∧ w'.ownsRow base e 1 v' (n + s.size) (xs ++ strCells s) ∧ w.grownBy w' v.ownBlock ∧ ∀ q, v'.ownBlock = some q → v.ownBlock = some q ∨ q = w.heap.size := by
  obtain ⟨v', w', hr, h2, h3, h4⟩ := run_append_own_string (P := P) w base t u ty e i ht hu hi hz hsize hby v n xs hown s h63 hbytes hbase
  refine ⟨v', w', hr, h2, h3, fun q hq => ?_⟩
  have hsmall : n + s.size ≤ 9223372036854775807 := by simp only [maxLen] at h63; omega
  have hxl : xs.length = n := by simpa using hown.1
  rcases hown.2 with ⟨rfl, rfl⟩ | ⟨g, cap, cur, rfl, hbg, hg, hnc, hcm, hcs, htake⟩
  · by_cases hm : s.size = 0
    · rw [h4.2 ⟨rfl, hm⟩] at hq
      cases hq
    · have hr2 := run_append_nil_string (P := P) w t u ty e i (.int .u8 0) ht hu hi hz s (by omega) (by omega) (by rw [hby]; omega)
      rw [hr] at hr2
      injection hr2 with e1 e2
      subst e1
      simp [Value.ownBlock] at hq
      exact .inr hq.symm
  · by_cases hroom : n + s.size ≤ cap
    · have hr2 := run_append_room_string (P := P) w t u ty e i ht hu hi hsize g n cap cur hg s hroom (by have h9 : cur.size = cap := (by simpa using hcs); omega)
      rw [hr] at hr2
      injection hr2 with e1 e2
      subst e1
      exact .inl hq
    · have holds : ∀ j u, xs[j]? = some u → w.cell? ((⟨g, 0, none⟩ : Addr).add j) = some u := hown.cells (g := g) rfl
      have hr2 := run_append_grow_string (P := P) w t u ty e i (.int .u8 0) ht hu hi hz ⟨g, 0, none⟩ n cap xs (by rw [hsize]; simpa using hxl) holds s (by omega) (by omega) (by rw [hby]; exact growslice_fits (by omega) (by omega))
      rw [hr] at hr2
      injection hr2 with e1 e2
      subst e1
      simp [Value.ownBlock] at hq
      exact .inr hq.symm

theorem wp_append_str_lies {P : Program} {w : World} {o : Oper} {a : Act} {K : Act → World → Prop} {Q : Exit → Act → World → Prop} (sl x : Operand) (t u : TypeId)
    (ho : o.op = .call { callee := .builtin .append, args := #[sl, x], argTypes := #[t, u] })
    (base : Nat) (e : TypeId) (i : TypeInfo) (ht : P.underlying t = some (.slice e)) (hu : P.underlying u = some .string) (hi : P.info? e = some i) (hz : i.zero = some (.int .u8 0))
    (hsize : i.size = 1) (hby : i.bytes = 1)
    (v : Value) (n : Nat) (xs : List Value) (hs : a.eval sl = v) (hown : w.ownsRow base e 1 v n xs) (s : ByteArray) (hx : a.eval x = .string s)
    (h63 : n + s.size ≤ maxLen) (hbytes : n + s.size ≤ 140737488355328) (hbase : base ≤ w.heap.size)
    (h : ∀ v' w', w'.ownsRow base e 1 v' (n + s.size) (xs ++ strCells s) → w.grownBy w' v.ownBlock → (∀ q, v'.ownBlock = some q → v.ownBlock = some q ∨ q = w.heap.size) → K (a.put o.dst v') w') : o.wp P a w K Q := by
  obtain ⟨v', w', hr, h2, h3, h4⟩ := run_append_str_lies (P := P) base t u o.type e i ht hu hi hz hsize hby v n xs hown s h63 hbytes hbase
  unfold Oper.wp execOp
  simp only [ho, resolve, invoke, builtin, Sem.run_bind, Sem.run_pure, Result.andThen_ok, List.map_toArray, List.map_cons, List.map_nil, hs, hx, hr]
  exact h v' w' h2 h3 h4

theorem wpList_append_str_lies {P : Program} {w : World} {ops : Array Oper} {rest : List Oper} {o : Oper} {a : Act} {Q : Exit → Act → World → Prop} (hgd : o.guard = none) (sl x : Operand) (t u : TypeId)
    (ho : o.op = .call { callee := .builtin .append, args := #[sl, x], argTypes := #[t, u] })
    (base : Nat) (e : TypeId) (i : TypeInfo) (ht : P.underlying t = some (.slice e)) (hu : P.underlying u = some .string) (hi : P.info? e = some i) (hz : i.zero = some (.int .u8 0))
    (hsize : i.size = 1) (hby : i.bytes = 1)
    (v : Value) (n : Nat) (xs : List Value) (hs : a.eval sl = v) (hown : w.ownsRow base e 1 v n xs) (s : ByteArray) (hx : a.eval x = .string s)
    (h63 : n + s.size ≤ maxLen) (hbytes : n + s.size ≤ 140737488355328) (hbase : base ≤ w.heap.size)
    (h : ∀ v' w', w'.ownsRow base e 1 v' (n + s.size) (xs ++ strCells s) → w.grownBy w' v.ownBlock → (∀ q, v'.ownBlock = some q → v.ownBlock = some q ∨ q = w.heap.size) → wpList P ops Q rest (a.put o.dst v') w') : wpList P ops Q (o :: rest) a w :=
  wpList_plain hgd fun _ hK => wp_append_str_lies sl x t u ho base e i ht hu hi hz hsize hby v n xs hs hown s hx h63 hbytes hbase fun v' w' h2 h3 h4 => hK _ _ (h v' w' h2 h3 h4)

theorem bytes_app {w : World} {B : Nat} {v : Value} {O : List Int} {s : ByteArray} (h : w.ownsRow B 5 1 v (O.length + s.size) (bytesV O ++ strCells s)) : w.ownsRow B 5 1 v (O ++ strB s).length (bytesV (O ++ strB s)) := by
  rw [List.length_append, strB_len, bytesV, List.map_append]
  rw [strCells_eq] at h
  exact h

end Go.Proofs.YtpbopjgmiaoomaaGreatDoor

namespace Go.Proofs.YtpbopjgmiaoomaaGreatDoor
open Go.RowKit Go.Lib
set_option linter.unusedVariables false


theorem rowV {w : World} {b : Nat} {v0 v1 v2 v3 : Value} {t : TypeId} (R : Row w b #[v0, v1, v2, v3] t) : w.cell? ⟨b, 0, none⟩ = some v0 ∧ w.cell? ⟨b, 1, none⟩ = some v1 ∧ w.cell? ⟨b, 2, none⟩ = some v2 ∧ w.cell? ⟨b, 3, none⟩ = some v3 :=
  ⟨by simpa using R.cell 0, by simpa using R.cell 1, by simpa using R.cell 2, by simpa using R.cell 3⟩

theorem rowC {w : World} {b : Nat} {v0 v1 v2 : Value} {t : TypeId} (R : Row w b #[v0, v1, v2] t) : w.cell? ⟨b, 0, none⟩ = some v0 ∧ w.cell? ⟨b, 1, none⟩ = some v1 ∧ w.cell? ⟨b, 2, none⟩ = some v2 :=
  ⟨by simpa using R.cell 0, by simpa using R.cell 1, by simpa using R.cell 2⟩

theorem ownsRow_low' {w : World} {base base' : Nat} {e : TypeId} {size : Nat} {v : Value} {n : Nat} {xs : List Value} (h : w.ownsRow base e size v n xs) (hb : base' ≤ base) : w.ownsRow base' e size v n xs := by
  refine ⟨h.1, ?_⟩
  rcases h.2 with hn | ⟨g, cap, cur, hv, h1, h2, h3⟩
  · exact .inl hn
  · exact .inr ⟨g, cap, cur, hv, by omega, h2, h3⟩

end Go.Proofs.YtpbopjgmiaoomaaGreatDoor

namespace Go.Proofs.YtpbopjgmiaoomaaGreatDoor
open Go.RowKit
set_option linter.unusedVariables false

/-- a value's cells -/
def vl4 (x : Vl) (u : Value) : List Value := [.int .i64 x.kind, .int .i64 x.num, .string x.text, u]

def vlC : List Vl → List Value → List Value
  | x :: P, u :: nv => vl4 x u ++ vlC P nv
  | _, _ => []

theorem vlC_len : ∀ (P : List Vl) (nv : List Value), nv.length = P.length → (vlC P nv).length = P.length * 4
  | [], _, _ => by simp [vlC]
  | x :: P, [], h => by simp at h
  | x :: P, u :: nv, h => by
    have := vlC_len P nv (by simpa using h)
    simp only [vlC, vl4, List.length_append, List.length_cons, List.length_nil, this]; omega

theorem vlC_snoc : ∀ (P : List Vl) (nv : List Value) (x : Vl) (u : Value), nv.length = P.length → vlC (P ++ [x]) (nv ++ [u]) = vlC P nv ++ vl4 x u
  | [], [], x, u, _ => by simp [vlC]
  | [], _ :: _, x, u, h => by simp at h
  | y :: P, [], x, u, h => by simp at h
  | y :: P, z :: nv, x, u, h => by
    have := vlC_snoc P nv x u (by simpa using h)
    simp only [List.cons_append, vlC, this, List.append_assoc]

theorem vlC_at : ∀ (P : List Vl) (nv : List Value) (j : Nat) (h : j < P.length) (h' : j < nv.length), (vlC P nv)[j * 4]? = some (.int .i64 P[j].kind) ∧ (vlC P nv)[j * 4 + 1]? = some (.int .i64 P[j].num) ∧ (vlC P nv)[j * 4 + 2]? = some (.string P[j].text) ∧ (vlC P nv)[j * 4 + 3]? = some nv[j]
  | x :: P, u :: nv, 0, _, _ => by simp [vlC, vl4]
  | x :: P, u :: nv, j + 1, h, h' => by
    have ih := vlC_at P nv j (by simpa using h) (by simpa using h')
    have e : ∀ i, (vlC (x :: P) (u :: nv))[(j + 1) * 4 + i]? = (vlC P nv)[j * 4 + i]? := fun i => by
      rw [vlC, List.getElem?_append_right (by simp [vl4]; omega)]
      congr 1
      simp [vl4]; omega
    exact ⟨(e 0).trans ih.1, (e 1).trans ih.2.1, (e 2).trans ih.2.2.1, (e 3).trans ih.2.2.2⟩
  | [], _, _, h, _ => absurd h (by simp)
  | _ :: _, [], _, _, h => absurd h (by simp)

/-- values in a row of the call's own, their names in rows of their own -/
structure OwnP (w : World) (lo : Nat) (v : Value) (P : List Vl) (nv : List Value) : Prop where
  len : nv.length = P.length
  own : w.ownsRow lo 57 4 v P.length (vlC P nv)
  names : ∀ j, (h : j < P.length) → (h' : j < nv.length) → w.ownsRow lo 9 1 nv[j] P[j].names.length (P[j].names.map Value.string)
  apart : ∀ i j, (hij : i < j) → (h : j < nv.length) → ∀ q, (nv[i]'(by omega)).ownBlock = some q → nv[j].ownBlock ≠ some q
  far : ∀ j, (h : j < nv.length) → ∀ q, nv[j].ownBlock = some q → v.ownBlock ≠ some q

theorem OwnP.nil (w : World) (lo : Nat) : OwnP w lo (.slice none 0 0) [] [] :=
  ⟨rfl, World.ownsRow_nil _ _ _ _, fun j h => absurd h (by simp), fun i j _ h => absurd h (by simp), fun j h => absurd h (by simp)⟩

theorem owns_blocks {w w' : World} {base : Nat} {e : TypeId} {size n : Nat} {v : Value} {xs : List Value} (h : w.ownsRow base e size v n xs) (hd : ∀ q, v.ownBlock = some q → w'.heap[q]? = w.heap[q]?) : w'.ownsRow base e size v n xs := by
  refine ⟨h.1, ?_⟩
  rcases h.2 with h2 | ⟨g, cap, cur, hv, h3, hg, h4⟩
  · exact .inl h2
  · exact .inr ⟨g, cap, cur, hv, h3, (hd g (by rw [hv]; rfl)).trans hg, h4⟩

theorem OwnP.lts {w : World} {lo : Nat} {v : Value} {P : List Vl} {nv : List Value} (h : OwnP w lo v P nv) : (∀ q, v.ownBlock = some q → lo ≤ q ∧ q < w.heap.size) ∧ ∀ j, (hj : j < nv.length) → ∀ q, nv[j].ownBlock = some q → lo ≤ q ∧ q < w.heap.size :=
  ⟨fun q hq => h.own.lt q hq, fun j hj q hq => (h.names j (by rw [← h.len]; exact hj) hj).lt q hq⟩

theorem OwnP.blocks {w w' : World} {lo : Nat} {v : Value} {P : List Vl} {nv : List Value} (h : OwnP w lo v P nv) (hd : ∀ k, lo ≤ k → k < w.heap.size → w'.heap[k]? = w.heap[k]?) : OwnP w' lo v P nv :=
  ⟨h.len, owns_blocks h.own (fun q hq => hd q (h.lts.1 q hq).1 (h.lts.1 q hq).2), fun j hj hj' => owns_blocks (h.names j hj hj') (fun q hq => hd q (h.lts.2 j hj' q hq).1 (h.lts.2 j hj' q hq).2), h.apart, h.far⟩

theorem OwnP.touch {w w' : World} {lo l1 h1 : Nat} {v : Value} {P : List Vl} {nv : List Value} (h : OwnP w lo v P nv) (T : Touch l1 h1 w w') (hd : h1 ≤ lo) : OwnP w' lo v P nv :=
  h.blocks (fun k hk hk' => T.block k hk' (.inr (by omega)))

theorem OwnP.set {w : World} {lo : Nat} {v : Value} {P : List Vl} {nv : List Value} (h : OwnP w lo v P nv) (p : Addr) (u : Value) (hp : p.block < lo) : OwnP (w.setCell p u) lo v P nv :=
  h.blocks (fun k hk hk' => heap_setCell_other w p k u (by omega))

theorem OwnP.alloc {w : World} {lo : Nat} {v : Value} {P : List Vl} {nv : List Value} (h : OwnP w lo v P nv) (o : Obj) : OwnP (w.alloc o) lo v P nv :=
  h.blocks (fun k hk hk' => Below.heap_alloc w o k hk')

theorem OwnP.low {w : World} {lo lo' : Nat} {v : Value} {P : List Vl} {nv : List Value} (h : OwnP w lo v P nv) (hl : lo' ≤ lo) : OwnP w lo' v P nv :=
  ⟨h.len, ownsRow_low' h.own hl, fun j hj hj' => ownsRow_low' (h.names j hj hj') hl, h.apart, h.far⟩

theorem OwnP.grown {w w' : World} {lo : Nat} {v : Value} {P : List Vl} {nv : List Value} {row : Option Nat} (h : OwnP w lo v P nv) (hg : w.grownBy w' row) (hr : ∀ q, row = some q → v.ownBlock ≠ some q ∧ ∀ j, (hj : j < nv.length) → nv[j].ownBlock ≠ some q) : OwnP w' lo v P nv :=
  ⟨h.len, owns_blocks h.own (fun q hq => hg.block q (h.lts.1 q hq).2 (fun e => (hr q e.symm).1 hq)), fun j hj hj' => owns_blocks (h.names j hj hj') (fun q hq => hg.block q (h.lts.2 j hj' q hq).2 (fun e => (hr q e.symm).2 j hj' hq)), h.apart, h.far⟩

/-- one more -/
theorem OwnP.snoc {w1 w2 : World} {lo : Nat} {v v' u : Value} {P : List Vl} {nv : List Value} {x : Vl} (h : OwnP w1 lo v P nv)
    (hu : w1.ownsRow lo 9 1 u x.names.length (x.names.map Value.string)) (hua : ∀ j, (hj : j < nv.length) → ∀ q, nv[j].ownBlock = some q → u.ownBlock ≠ some q) (huv : ∀ q, u.ownBlock = some q → v.ownBlock ≠ some q)
    (hown : w2.ownsRow lo 57 4 v' (P.length + 1) (vlC P nv ++ vl4 x u)) (hg : w1.grownBy w2 v.ownBlock) (hv : ∀ q, v'.ownBlock = some q → v.ownBlock = some q ∨ w1.heap.size ≤ q) : OwnP w2 lo v' (P ++ [x]) (nv ++ [u]) := by
  have hl := h.len
  have key : ∀ j, (hj : j < (nv ++ [u]).length) → ∀ q, (nv ++ [u])[j].ownBlock = some q → q < w1.heap.size ∧ v.ownBlock ≠ some q := fun j hj q hq => by
    by_cases hjn : j < nv.length
    · rw [List.getElem_append_left hjn] at hq
      exact ⟨(h.lts.2 j hjn q hq).2, h.far j hjn q hq⟩
    · have e : j = nv.length := by simp at hj; omega
      subst e
      simp at hq
      exact ⟨(hu.lt q hq).2, huv q hq⟩
  refine ⟨by simp [hl], by rw [List.length_append, List.length_singleton, vlC_snoc _ _ _ _ hl]; exact hown, fun j hj hj' => ?_, fun i j hij hj q hq => ?_, fun j hj q hq => ?_⟩
  · by_cases hjn : j < nv.length
    · have a1 : (nv ++ [u])[j] = nv[j] := List.getElem_append_left hjn
      have a2 : (P ++ [x])[j] = P[j]'(by omega) := List.getElem_append_left (by omega)
      rw [a1, a2]
      refine owns_blocks (h.names j (by omega) hjn) (fun q hq => ?_)
      have := key j hj' q (by rw [a1]; exact hq)
      exact hg.block q this.1 (fun e => this.2 e.symm)
    · have e : j = nv.length := by simp at hj'; omega
      subst e
      have a1 : (nv ++ [u])[nv.length]'hj' = u := by simp
      have a2 : (P ++ [x])[nv.length]'hj = x := by simp [hl]
      rw [a1, a2]
      refine owns_blocks hu (fun q hq => ?_)
      have := key nv.length hj' q (by rw [a1]; exact hq)
      exact hg.block q this.1 (fun e => this.2 e.symm)
  · by_cases hjn : j < nv.length
    · rw [List.getElem_append_left hjn]
      rw [List.getElem_append_left (by omega)] at hq
      exact h.apart i j hij hjn q hq
    · have e : j = nv.length := by simp at hj; omega
      subst e
      rw [List.getElem_append_left hij] at hq
      simp
      exact hua i hij q hq
  · have k := key j hj q hq
    intro e
    rcases hv q e with e' | e'
    · exact k.2 e'
    · omega

/-- small values -/
def okV (x : Vl) : Prop := x.text.size ≤ 255 ∧ x.names.length ≤ 255 ∧ ∀ s ∈ x.names, s.size ≤ 255

theorem OwnP.vls {w : World} {lo n c : Nat} {a : Option Addr} {P : List Vl} {nv : List Value} (h : OwnP w lo (.slice a n c) P nv) (hn : P.length = n) (hk : n ≤ 65535) (ok : ∀ x ∈ P, okV x) : Vls w a n c P := by
  refine ⟨hn, by omega, fun x hx => by have := (ok x hx).1; omega, fun j hj => ?_⟩
  have hj' : j < nv.length := by rw [h.len]; exact hj
  obtain ⟨c0, c1, c2, c3⟩ := vlC_at P nv j hj hj'
  obtain ⟨g, ha⟩ : ∃ g, a = some ⟨g, 0, none⟩ := by
    rcases h.own.2 with ⟨_, h0⟩ | ⟨g, cap, cur, hv, _⟩
    · omega
    · simp only [Value.slice.injEq] at hv; exact ⟨g, hv.1⟩
  subst ha
  subst hn
  have hl := vlC_len P nv h.len
  have cell : ∀ i, i < 4 → w.cell? ⟨g, 0 + j * 4 + i, none⟩ = (vlC P nv)[j * 4 + i]? := fun i hi => by
    rw [Nat.zero_add]; exact h.own.cellAt (g := g) (n := P.length) (j * 4 + i) (by omega)
  obtain ⟨an, cn, hu⟩ := owns_form (h.names j hj hj')
  have hN := h.names j hj hj'
  rw [hu] at c3 hN
  refine ⟨g, 0, rfl, (h.own.lt g rfl).2, an, _, cn, (cell 0 (by omega)).trans c0, (cell 1 (by omega)).trans c1, (cell 2 (by omega)).trans c2, (cell 3 (by omega)).trans c3, Strs.of_owns hN ?_⟩
  intro i hi
  have hm := (ok P[j] (List.getElem_mem hj)).2.2 _ (List.getElem_mem hi)
  rw [nth_eq _ i hi]; unfold maxLen; omega

/-- instructions in a row of the call's own -/
def inC (I : List Is1) : List Value := I.flatMap fun i => [.int .i64 i.op, .int .i64 i.arg]

theorem inC_len (I : List Is1) : (inC I).length = I.length * 2 := by
  induction I with
  | nil => rfl
  | cons i I ih => simp only [inC, List.flatMap_cons, List.length_append, List.length_cons, List.length_nil] at ih ⊢; omega

theorem inC_at : ∀ (I : List Is1) (j : Nat) (h : j < I.length), (inC I)[j * 2]? = some (.int .i64 I[j].op) ∧ (inC I)[j * 2 + 1]? = some (.int .i64 I[j].arg)
  | i :: I, 0, _ => by simp [inC]
  | i :: I, j + 1, h => by
    have ih := inC_at I j (by simpa using h)
    have e : ∀ q, (inC (i :: I))[(j + 1) * 2 + q]? = (inC I)[j * 2 + q]? := fun q => by
      rw [inC, List.flatMap_cons, List.getElem?_append_right (by simp; omega)]
      show (inC I)[_]? = _
      congr 1
      simp; omega
    exact ⟨(e 0).trans ih.1, (e 1).trans ih.2⟩

theorem iss_of_owns {w : World} {lo n c : Nat} {a : Option Addr} {I : List Is1} (h : w.ownsRow lo 62 2 (.slice a n c) n (inC I)) (hn : I.length = n) (hk : n ≤ 65535) : Iss w a n c I := by
  refine ⟨hn, by omega, fun j hj => ?_⟩
  obtain ⟨g, ha⟩ : ∃ g, a = some ⟨g, 0, none⟩ := by
    rcases h.2 with ⟨_, h0⟩ | ⟨g, cap, cur, hv, _⟩
    · omega
    · simp only [Value.slice.injEq] at hv; exact ⟨g, hv.1⟩
  subst ha
  subst hn
  have hl := inC_len I
  obtain ⟨c0, c1⟩ := inC_at I j hj
  have cell : ∀ i, i < 2 → w.cell? ⟨g, 0 + j * 2 + i, none⟩ = (inC I)[j * 2 + i]? := fun i hi => by
    rw [Nat.zero_add]; exact h.cellAt (g := g) (n := I.length) (j * 2 + i) (by omega)
  exact ⟨g, 0, rfl, (h.lt g rfl).2, (cell 0 (by omega)).trans c0, (cell 1 (by omega)).trans c1⟩

end Go.Proofs.YtpbopjgmiaoomaaGreatDoor

namespace Go.Proofs.YtpbopjgmiaoomaaGreatDoor
open Go.RowKit
set_option linter.unusedVariables false

/-- the text of bytes -/
def keyB (L : List Int) : ByteArray := ⟨(L.map fun x => UInt8.ofNat x.toNat).toArray⟩

theorem keyB_inj {A B : List Int} (hA : ∀ x ∈ A, 0 ≤ x ∧ x < 256) (hB : ∀ x ∈ B, 0 ≤ x ∧ x < 256) (h : keyB A = keyB B) : A = B := by
  have q : A.map (fun x => UInt8.ofNat x.toNat) = B.map (fun x => UInt8.ofNat x.toNat) := by
    have := congrArg (fun s : ByteArray => s.data.toList) h
    simpa [keyB] using this
  have r : ∀ (L : List Int), (∀ x ∈ L, 0 ≤ x ∧ x < 256) → (L.map (fun x => UInt8.ofNat x.toNat)).map (fun b => (b.toNat : Int)) = L := fun L hL => by
    rw [List.map_map]
    conv => rhs; rw [← List.map_id L]
    apply List.map_congr_left
    intro x hx
    have := hL x hx
    simp only [Function.comp_apply, UInt8.toNat_ofNat', id_eq]
    omega
  rw [← r A hA, ← r B hB, q]

/-- a map from the pool's values to their places -/
def MapP (w : World) (mb : Nat) (P : List Vl) : Prop := ∃ (es : Array MapEntry) (cl : Nat), w.heap[mb]? = some (.map es cl) ∧ es.size = P.length ∧ ∀ j, (h : j < P.length) → ∃ e, es[j]? = some e ∧ e.key = .string (keyB (valE P[j])) ∧ e.val = .int .i64 j

theorem MapP.keep {w w' : World} {mb : Nat} {P : List Vl} (h : MapP w mb P) (hb : w'.heap[mb]? = w.heap[mb]?) : MapP w' mb P := by
  obtain ⟨es, cl, h1, h2⟩ := h
  exact ⟨es, cl, hb.trans h1, h2⟩

theorem MapP.lt {w : World} {mb : Nat} {P : List Vl} (h : MapP w mb P) : mb < w.heap.size := by
  obtain ⟨es, cl, h1, _⟩ := h
  exact (Array.getElem?_eq_some_iff.1 h1).1

theorem entry_of {es : Array MapEntry} {P : List Vl} (hz : es.size = P.length) (h : ∀ j, (h : j < P.length) → ∃ e, es[j]? = some e ∧ e.key = .string (keyB (valE P[j])) ∧ e.val = .int .i64 j) : ∀ x ∈ es.toList, ∃ (j : Nat) (hj : j < P.length), x.key = .string (keyB (valE P[j])) ∧ x.val = .int .i64 j := fun x hx => by
  obtain ⟨j, hj, rfl⟩ := List.getElem_of_mem hx
  have hjn : j < P.length := by simpa [hz] using hj
  obtain ⟨e, e1, e2, e3⟩ := h j hjn
  have : es.toList[j] = e := by
    have := e1
    rw [← Array.getElem?_toList, List.getElem?_eq_getElem hj] at this
    exact Option.some.inj this
  rw [this]
  exact ⟨j, hjn, e2, e3⟩

theorem beB_range (y : Int) : ∀ w, ∀ x ∈ beB y w, 0 ≤ x ∧ x < 256
  | 0, x, h => by cases h
  | w + 1, x, h => by
    rw [beB] at h
    rcases List.mem_cons.1 h with rfl | h
    · exact byteAt_range y w
    · exact beB_range y w x h

theorem strB_range (s : ByteArray) : ∀ x ∈ strB s, 0 ≤ x ∧ x < 256 := fun x h => by
  rw [strB] at h
  obtain ⟨b, _, rfl⟩ := List.mem_map.1 h
  have := b.toNat_lt
  omega

theorem textB_range (s : ByteArray) : ∀ x ∈ textB s, 0 ≤ x ∧ x < 256 := fun x h => by
  rw [textB] at h
  rcases List.mem_append.1 h with h | h
  · exact beB_range _ _ x h
  · exact strB_range s x h

theorem valE_range (v : Vl) : ∀ x ∈ valE v, 0 ≤ x ∧ x < 256 := fun x h => by
  rw [valE] at h
  rcases List.mem_append.1 h with h | h
  · exact beB_range _ _ x h
  split at h
  · exact beB_range _ _ x h
  split at h
  · exact beB_range _ _ x h
  split at h
  · exact textB_range _ x h
  split at h
  · rcases List.mem_append.1 h with h | h
    · exact beB_range _ _ x h
    · obtain ⟨s, _, hs⟩ := List.mem_flatMap.1 h
      exact textB_range s x hs
  · cases h

/-- a value's key tells it -/
theorem key_inj {v u : Vl} (hv : okW v) (hu : okW u) (h : keyB (valE v) = keyB (valE u)) : v = u := valE_inj hv hu (keyB_inj (valE_range v) (valE_range u) h)

/-- a value is looked up -/
theorem run_lookV (w : World) (mb : Nat) (P : List Vl) (v : Vl) (h : MapP w mb P) (hn : P.Nodup) (hP : ∀ u ∈ P, okW u) (hv : okW v) :
    (Instr.lookup 66 (.map (some mb)) (.string (keyB (valE v))) true).run Tryz.prog w = .ok (.tuple #[.int .i64 (((findV v P 0).getD 0 : Nat) : Int), .bool (findV v P 0).isSome]) w := by
  obtain ⟨es, cl, h1, h2, h3⟩ := h
  have he := entry_of h2 h3
  have hk : ∀ x ∈ es.toList, MapKept.IsKey .string x.key := fun x hx => by
    obtain ⟨j, hj, e, _⟩ := he x hx
    rw [e]; trivial
  rcases MapKept.findNow_spec (d := .string) (k := .string (keyB (valE v))) trivial es.toList 0 hk with ⟨f1, f2⟩ | ⟨j, e, f1, f2, f3⟩
  · have hf : findV v P 0 = none := by
      cases q : findV v P 0 with
      | none => rfl
      | some k =>
        obtain ⟨_, q2, q3⟩ := findV_some q
        obtain ⟨e, e1, e2, _⟩ := h3 (k - 0) q2
        exact absurd (by rw [e2, q3]) (f2 e (by rw [← Array.getElem?_toList] at e1; exact List.mem_of_getElem? e1))
    rw [hf]
    simp [Instr.lookup, run_underlying Tryz.underlying66, MapKept.run_getObj_map h1, MapKept.run_checkKey Tryz.underlying9 (k := .string (keyB (valE v))) trivial, MapKept.run_findKey Tryz.underlying9 f1, Tryz.zeroValue3]
  · have hm : e ∈ es.toList := List.mem_of_getElem? f2
    obtain ⟨k, hk2, e2, e3⟩ := he e hm
    rw [f3] at e2
    have hkey : keyB (valE v) = keyB (valE P[k]) := Value.string.inj e2
    have hpk := key_inj hv (hP _ (List.getElem_mem hk2)) hkey
    have hf := findV_at hn hk2 hpk.symm
    rw [hf]
    rw [e3] at f1
    simp [Instr.lookup, run_underlying Tryz.underlying66, MapKept.run_getObj_map h1, MapKept.run_checkKey Tryz.underlying9 (k := .string (keyB (valE v))) trivial, MapKept.run_findKey Tryz.underlying9 f1]

/-- a value is entered -/
theorem run_updV (w : World) (mb : Nat) (P : List Vl) (v : Vl) (h : MapP w mb P) (hP : ∀ u ∈ P, okW u) (hv : okW v) (hf : v ∉ P) :
    ∃ w', (Instr.mapUpdate 66 (.map (some mb)) (.string (keyB (valE v))) (.int .i64 (P.length : Nat))).run Tryz.prog w = .ok () w' ∧ MapP w' mb (P ++ [v]) ∧ (∀ k, k ≠ mb → w'.heap[k]? = w.heap[k]?) ∧ w'.heap.size = w.heap.size ∧ ∀ B, B ≤ mb → Below B w w' := by
  obtain ⟨es, cl, h1, h2, h3⟩ := h
  have he := entry_of h2 h3
  have hk : ∀ x ∈ es.toList, MapKept.IsKey .string x.key := fun x hx => by
    obtain ⟨j, hj, e, _⟩ := he x hx
    rw [e]; trivial
  rcases MapKept.findNow_spec (d := .string) (k := .string (keyB (valE v))) trivial es.toList 0 hk with ⟨f1, f2⟩ | ⟨j, e, f1, f2, f3⟩
  · obtain ⟨g1, g2⟩ := MapKept.heap_set (o' := .map (es.push ⟨.string (keyB (valE v)), .int .i64 (P.length : Nat), cl⟩) (cl + 1)) h1
    refine ⟨{ w with heap := w.heap.setIfInBounds mb (.map (es.push ⟨.string (keyB (valE v)), .int .i64 (P.length : Nat), cl⟩) (cl + 1)) }, ?_, ⟨_, _, g1, by simp [h2], fun j hj => ?_⟩, g2, by simp, fun B hB => ⟨rfl, rfl, rfl, by simp, fun k hk => g2 k (by omega)⟩⟩
    · simp [Instr.mapUpdate, run_underlying Tryz.underlying66, MapKept.run_getObj_map h1, MapKept.run_checkKey Tryz.underlying9 (k := .string (keyB (valE v))) trivial, MapKept.run_findKey Tryz.underlying9 f1, MapKept.run_setObj_map _ h1]
    · by_cases hj2 : j < P.length
      · obtain ⟨e, e1, e2, e3⟩ := h3 j hj2
        exact ⟨e, by rw [Array.getElem?_push_lt (by omega), ← e1, Array.getElem?_eq_getElem (by omega)], by rw [List.getElem_append_left hj2]; exact e2, e3⟩
      · have ej : j = P.length := by simp at hj; omega
        subst ej
        refine ⟨⟨.string (keyB (valE v)), .int .i64 (P.length : Nat), cl⟩, by rw [show P.length = es.size from h2.symm]; exact Array.getElem?_push_size, ?_, rfl⟩
        rw [List.getElem_append_right (Nat.le_refl _)]
        simp
  · exfalso
    obtain ⟨k, hk2, e2, _⟩ := he e (List.mem_of_getElem? f2)
    rw [f3] at e2
    have hkey : keyB (valE v) = keyB (valE P[k]) := Value.string.inj e2
    exact hf (key_inj hv (hP _ (List.getElem_mem hk2)) hkey ▸ List.getElem_mem hk2)

end Go.Proofs.YtpbopjgmiaoomaaGreatDoor

namespace Go.Proofs.YtpbopjgmiaoomaaGreatDoor
open Go.RowKit
set_option linter.unusedVariables false

theorem infoIns : (Tryz.prog.info? 62).map (fun i => (i.zero, i.size, i.bytes)) = some (some (.agg #[.int .i64 0, .int .i64 0]), 2, 16) := by kernel_rfl

/-- the cells of instructions -/
def insV (I : List Is1) : List Value := I.flatMap fun i => [.int .i64 i.op, .int .i64 i.arg]

theorem insV_snoc (I : List Is1) (i : Is1) : insV (I ++ [i]) = insV I ++ [.int .i64 i.op, .int .i64 i.arg] := by
  rw [insV, List.flatMap_append]; rfl

theorem row4C {w : World} {b : Nat} {v0 v1 v2 v3 : Value} {t : TypeId} (R : Row w b #[v0, v1, v2, v3] t) : w.cell? ⟨b, 0, none⟩ = some v0 ∧ w.cell? ⟨b, 1, none⟩ = some v1 ∧ w.cell? ⟨b, 2, none⟩ = some v2 ∧ w.cell? ⟨b, 3, none⟩ = some v3 := ⟨R.cell 0, R.cell 1, R.cell 2, R.cell 3⟩

set_option maxRecDepth 100000 in
set_option maxHeartbeats 3200000 in
theorem write_any (cb B : Nat) (pv : Value) (sl : Int) (mv : Value) (ia : Option Addr) (ic : Nat) (I : List Is1) (op arg : Int) (w : World) (hR : Row w cb #[pv, .int .i64 sl, .slice ia I.length ic, mv] 68) (hO : w.ownsRow B 62 2 (.slice ia I.length ic) I.length (insV I)) (hn : I.length ≤ 1048576) (hB : B ≤ cb) :
    Calls Tryz.prog 58 #[.pointer (some ⟨cb, 0, none⟩), .int .i64 op, .int .i64 arg] w fun r w' => r = .returned (.int .i64 I.length) ∧ ∃ g cap, Row w' cb #[pv, .int .i64 sl, .slice (some ⟨g, 0, none⟩) (I.length + 1) cap, mv] 68 ∧ w'.ownsRow B 62 2 (.slice (some ⟨g, 0, none⟩) (I.length + 1) cap) (I.length + 1) (insV (I ++ [⟨op, arg⟩])) ∧ ((Value.slice ia I.length ic).ownBlock = some g ∨ w.heap.size ≤ g) ∧ Kpt (fun k => k = cb ∨ (Value.slice ia I.length ic).ownBlock = some k) w w' := by
  obtain ⟨ti, hti, hz0, hz1, hz2⟩ := info_parts infoIns
  have hcb := hR.lt
  obtain ⟨c0, c1, c2, c3⟩ := row4C hR
  have hne : (Value.slice ia I.length ic).ownBlock ≠ some cb := own_ne_row hR hO (by decide)
  have C0 := (Below.refl w.heap.size w).alloc (Nat.le_refl _) (.cells #[.int .i64 op, .int .i64 arg] 62)
  have R0 := hR.after C0 (Nat.le_refl _)
  have NW := World.news_of_block (heap_alloc_new w (.cells #[.int .i64 op, .int .i64 arg] 62))
  have HR := hide R0
  clear hR
  go_enter Tryz.func58, Tryz.ntmps58
  go_wp2_with (at_builtin; refine wpList_append_lies _ rfl _ _ 29 rfl B 62 ti (.agg #[.int .i64 0, .int .i64 0]) 2 16 Tryz.underlying29 hti hz0 hz1 hz2 rfl (by decide) (.slice ia I.length ic) I.length (insV I) rfl (World.ownsRow.alloc hO _) ⟨w.heap.size, 0, none⟩ 1 1 [.int .i64 op, .int .i64 arg] rfl rfl NW ?c2 (by decide) ?c3 ?c4 ?c5 (w.heap.size + 1) (by simp) ?_)
  case c2 => first | exact ⟨rfl, rfl⟩ | (intro u hu; simp at hu; rcases hu with rfl | rfl <;> rfl)
  case c3 => unfold maxLen; omega
  case c4 => omega
  case c5 => first | omega | (simp; omega)
  intro g7 cap7 w7 O7 hgrow hat hgl
  have R7 := rowGrown (unhide HR) hgrow (fun e => hne e.symm)
  obtain ⟨d0, d1, d2, d3⟩ := row4C R7
  have f9 := fun j => R7.frozen j
  have hg7 : g7 ≠ cb := fun e => by
    rcases hat with q | q
    · rw [e] at q; exact hne q
    · omega
  have RE : Row (w7.setCell ⟨cb, 2, none⟩ (.slice (some ⟨g7, 0, none⟩) (I.length + 1) cap7)) cb #[pv, .int .i64 sl, .slice (some ⟨g7, 0, none⟩) (I.length + 1) cap7, mv] 68 := R7.set 2 _
  obtain ⟨s0, s1, s2, s3⟩ := row4C RE
  have HE := hide RE
  have HO := hide (own_set3 O7 ⟨cb, 2, none⟩ (.slice (some ⟨g7, 0, none⟩) (I.length + 1) cap7) (fun q hq => by simp [Value.ownBlock] at hq; subst hq; exact hg7))
  have K7 : Kpt (fun k => k = cb ∨ (Value.slice ia I.length ic).ownBlock = some k) w w7 := ⟨hgrow.os, hgrow.tape, hgrow.output, Nat.le_trans C0.size hgrow.size, fun k hk hS => (hgrow.block k (Nat.lt_of_lt_of_le hk C0.size) (fun e => hS (.inr e.symm))).trans (C0.block k hk)⟩
  have HK := hide (K7.setCell (p := ⟨cb, 2, none⟩) (fun _ => .inl rfl) (.slice (some ⟨g7, 0, none⟩) (I.length + 1) cap7))
  have HA := hide (show (Value.slice ia I.length ic).ownBlock = some g7 ∨ w.heap.size ≤ g7 from hat.elim .inl (fun e => .inr (by omega)))
  clear R7 O7 hgrow hat hgl K7 RE
  go_wp2_with fail
  go_ret
  exact ⟨rfl, g7, cap7, unhide HE, by rw [insV_snoc]; exact unhide HO, unhide HA, unhide HK⟩

end Go.Proofs.YtpbopjgmiaoomaaGreatDoor

namespace Go.Proofs.YtpbopjgmiaoomaaGreatDoor
open Go.RowKit
set_option linter.unusedVariables false

theorem insV_modify : ∀ (I : List Is1) (k : Nat) (a : Int), k < I.length → (insV I).set (k * 2 + 1) (.int .i64 a) = insV (I.modify k fun i => ⟨i.op, a⟩)
  | [], k, a, h => by simp at h
  | i :: I, 0, a, _ => rfl
  | i :: I, k + 1, a, h => by
    have := insV_modify I k a (by simpa using h)
    show (Value.int .i64 i.op :: Value.int .i64 i.arg :: insV I).set ((k + 1) * 2 + 1) _ = Value.int .i64 i.op :: Value.int .i64 i.arg :: insV (I.modify k fun i => ⟨i.op, a⟩)
    rw [show (k + 1) * 2 + 1 = (k * 2 + 1) + 1 + 1 by omega, List.set_cons_succ, List.set_cons_succ, this]

theorem insV_at : ∀ (I : List Is1) (k : Nat) (h : k < I.length), (insV I)[k * 2]? = some (.int .i64 I[k].op) ∧ (insV I)[k * 2 + 1]? = some (.int .i64 I[k].arg)
  | [], k, h => by simp at h
  | i :: I, 0, _ => ⟨rfl, rfl⟩
  | i :: I, k + 1, h => by
    have := insV_at I k (by simpa using h)
    rw [show (k + 1) * 2 = k * 2 + 1 + 1 by omega]
    exact this

set_option maxRecDepth 100000 in
set_option maxHeartbeats 3200000 in
theorem leadHere_any (cb B : Nat) (pv : Value) (sl : Int) (mv : Value) (ia : Option Addr) (ic : Nat) (I : List Is1) (k : Nat) (hk : k < I.length) (w : World) (hR : Row w cb #[pv, .int .i64 sl, .slice ia I.length ic, mv] 68) (hO : w.ownsRow B 62 2 (.slice ia I.length ic) I.length (insV I)) (hn : I.length ≤ 1048576) (hB : B ≤ cb) :
    Calls Tryz.prog 60 #[.pointer (some ⟨cb, 0, none⟩), .int .i64 k] w fun r w' => r = .returned (.tuple #[]) ∧ Row w' cb #[pv, .int .i64 sl, .slice ia I.length ic, mv] 68 ∧ w'.ownsRow B 62 2 (.slice ia I.length ic) I.length (insV (I.modify k fun i => ⟨i.op, I.length⟩)) ∧ Kpt (fun q => (Value.slice ia I.length ic).ownBlock = some q) w w' := by
  obtain ⟨x, c, e, hx⟩ := owns_form2 hO
  simp only [Value.slice.injEq] at e
  obtain ⟨rfl, _, rfl⟩ := e
  obtain ⟨g, rfl, hg, hc⟩ := hx (by omega)
  have l0 := hc _ _ (insV_at I k hk).1
  have l1 := hc _ _ (insV_at I k hk).2
  have hgl := (hO.lt g rfl).2
  have gf : ∀ j, w.frozen? ⟨g, j, none⟩ = false := fun j => by
    rcases hO.2 with ⟨q, _⟩ | ⟨g', cap, cur, q, _, hb, _⟩
    · cases q
    · cases q; exact frozen_of_row w g j cur _ hb
  have hne : g ≠ cb := fun e => own_ne_row hR hO (by decide) (by rw [← e]; rfl)
  obtain ⟨c0, c1, c2, c3⟩ := row4C hR
  have ik : (k : Int) < (I.length : Int) := by omega
  have HR := hide ((hR.setFar (p := ⟨g, k * 2 + 1, none⟩) (fun e => hne e.symm) (.int .i64 I.length)).after (Below.refl _ _).drew (Nat.le_refl _))
  have HO := hide (show (w.setCell ⟨g, k * 2 + 1, none⟩ (.int .i64 I.length)).drew.ownsRow B 62 2 (.slice (some ⟨g, 0, none⟩) I.length ic) I.length (insV (I.modify k fun i => ⟨i.op, I.length⟩)) by rw [← insV_modify I k _ hk]; exact (hO.stored _ _).1.drew)
  have HK := hide (((Kpt.refl (fun q => (Value.slice (some ⟨g, 0, none⟩) I.length ic).ownBlock = some q) w).setCell (p := ⟨g, k * 2 + 1, none⟩) (fun _ => rfl) (.int .i64 I.length)).trans (Kpt.of_below (S := fun q => (Value.slice (some ⟨g, 0, none⟩) I.length ic).ownBlock = some q) (Below.refl _ _).drew) (fun q _ h => h))
  go_enter Tryz.func60, Tryz.ntmps60
  go_wp2_with fail
  go_region
  all_goals
    go_wp2_with fail
    go_end0
    exact ⟨rfl, unhide HR, unhide HO, unhide HK⟩

end Go.Proofs.YtpbopjgmiaoomaaGreatDoor

namespace Go.Proofs.YtpbopjgmiaoomaaGreatDoor
open Go.RowKit Go.Lib
set_option linter.unusedVariables false
theorem wk_str {g : Nat} {w w' : World} {v v' : Value} (hg : w.grownBy w' v.ownBlock) (ha : ∀ q, v'.ownBlock = some q → v.ownBlock = some q ∨ q = w.heap.size) (u : Value) : WK g w v (w'.setCell ⟨g, 3, none⟩ u) v' :=
  ⟨fun k hk hkg hne => (heap_setCell_other w' ⟨g, 3, none⟩ k u hkg).trans (hg.block k hk hne), fun q hq => by
    rcases ha q hq with e | e
    · exact .inl e
    · right; omega, by have := hg.size; simpa using this⟩

set_option maxHeartbeats 1600000 in
theorem text_any (g : Nat) (h0 h1 h2 : Int) (v : Value) (O : List Int) (s : ByteArray) (w : World) (hw : Wr w g h0 h1 h2 v O) (hO : O.length ≤ 100000000) (hs : s.size ≤ 1048576) :
    Calls Tryz.prog 121 #[.pointer (some ⟨g, 0, none⟩), .string s] w fun e w' => WrAns w g h0 h1 h2 v (O ++ textB s) e w' := by
  obtain ⟨i, hi, hz0, hz1, hz2⟩ := info_parts infoB
  go_enter Tryz.func121, Tryz.ntmps121
  go_wp2_with (first
    | (go_at_call 120; refine (number_any g h0 h1 h2 v O _ 1 _ hw (by omega) hO).mono ?_; rintro e w2 ⟨rfl, v2, W2, K2, B2⟩; obtain ⟨x, c, rfl⟩ := bytes_form W2.own; have hl2 : (O ++ beB (↑s.size) 1).length = O.length + 1 := (by rw [List.length_append, beB_len]); obtain ⟨O2, HO2⟩ : ∃ O2, Hid (O ++ beB (↑s.size) 1 = O2) := ⟨_, hide rfl⟩; rw [unhide HO2] at W2 K2 hl2; have hl3 : O2.length ≤ 100000001 := (by omega); clear hl2; have q3 := W2.row.cell 3; have f3 := W2.row.frozen 3; simp only [List.getElem?_toArray, List.getElem?_cons_succ, List.getElem?_cons_zero] at q3; have hgl := W2.row.lt; have hgo : ∀ q, (Value.slice x O2.length c).ownBlock = some q → g + 1 ≤ q := fun q hq => (W2.own.lt q hq).1)
    | (at_builtin; refine wpList_append_str_lies rfl _ _ 166 9 rfl (g + 1) 5 i Tryz.underlying166 Tryz.underlying9 hi hz0 hz1 hz2 (.slice x O2.length c) O2.length (bytesV O2) rfl W2.own s rfl (by unfold maxLen; omega) (by omega) (by omega) ?_; intro v3 w3 O3 hgrow hat; have R3 : Row w3 g #[.int .i64 h0, .int .i64 h1, .int .i64 h2, .slice x O2.length c] 193 := ⟨(hgrow.block g hgl (fun e => by have := hgo g e.symm; omega)).trans W2.row.out⟩; have t1 := R3.cell 3; have t2 := R3.frozen 3; simp only [List.getElem?_toArray, List.getElem?_cons_succ, List.getElem?_cons_zero] at t1; obtain ⟨x3, c3, hv3⟩ := bytes_form O3; subst hv3))
  have W4 : Wr (w3.setCell ⟨g, 3, none⟩ (.slice x3 (O2.length + s.size) c3)) g h0 h1 h2 (.slice x3 (O2.length + s.size) c3) (O2 ++ strB s) := ⟨R3.set 3 _, bytes_far (bytes_app O3)⟩
  refine bodyPost_end (by simp [results, Tryz.results121, go_sem]) rfl ⟨rfl, _, ?_, K2.trans (wk_str hgrow hat _), ?_⟩
  · rw [textB, ← List.append_assoc, unhide HO2]; exact W4
  · exact (B2.grown hgrow (by omega) (fun q hq => by have := hgo q hq; omega)).setCell (p := ⟨g, 3, none⟩) (Nat.le_refl _) _

end Go.Proofs.YtpbopjgmiaoomaaGreatDoor

namespace Go.Proofs.YtpbopjgmiaoomaaGreatDoor
open Go.RowKit Go.Lib
set_option linter.unusedVariables false

theorem Wr.alloc {w : World} {g : Nat} {h0 h1 h2 : Int} {v : Value} {O : List Int} (h : Wr w g h0 h1 h2 v O) (o : Obj) : Wr (w.alloc o) g h0 h1 h2 v O := ⟨h.row.alloc o, h.own.alloc o⟩

/-- a call over a world with one block more -/
theorem WK.from {g : Nat} {w w' : World} {v v' : Value} {o : Obj} (h : WK g (w.alloc o) v w' v') : WK g w v w' v' :=
  ⟨fun k hk hg hne => (h.1 k (by simp; omega) hg hne).trans (Below.heap_alloc w o k hk), fun q hq => by
    rcases h.2.1 q hq with e | e
    · exact .inl e
    · right; simp at e; omega, by have := h.2.2; simp at this; omega⟩

set_option maxRecDepth 100000 in
set_option maxHeartbeats 3200000 in
theorem value_any (g : Nat) (h0 h1 h2 : Int) (v : Value) (O : List Int) (x : Vl) (an : Option Addr) (nn cn : Nat) (w : World) (hw : Wr w g h0 h1 h2 v O) (hO : O.length ≤ 90000000) (hx : valB x = true) (w0 : World) (hN : Strs w0 an nn cn x.names) (hB : w0.heap.size ≤ g) (hb0 : Below w0.heap.size w0 w) (hs : x.text.size ≤ 1048576) :
    Calls Tryz.prog 105 #[.pointer (some ⟨g, 0, none⟩), .agg #[.int .i64 x.kind, .int .i64 x.num, .string x.text, .slice an nn cn]] w fun e w' => WrAns w g h0 h1 h2 v (O ++ valE x) e w' := by
  have W0 := hw.alloc (.cells #[.int .i64 x.kind, .int .i64 x.num, .string x.text, .slice an nn cn] 57)
  have R0 := Row.new w #[.int .i64 x.kind, .int .i64 x.num, .string x.text, .slice an nn cn] 57
  have hgl := hw.row.lt
  have hne : v.ownBlock ≠ some w.heap.size := fun e => by have := (hw.own.lt _ e).2; omega
  have hgo : ∀ q, v.ownBlock = some q → g < q := fun q hq => by have := (hw.own.lt q hq).1; omega
  have B0 := (Below.refl g w).alloc (by omega) (.cells #[.int .i64 x.kind, .int .i64 x.num, .string x.text, .slice an nn cn] 57)
  have Hx := hide hx
  have HV := hide (show valE x = beB x.kind 1 ++ (if x.kind = 1 then beB x.num 1 else if x.kind = 2 then beB x.num 8 else if x.kind = 3 then textB x.text else if x.kind = 4 then beB x.names.length 1 ++ x.names.flatMap textB else []) from rfl)
  have hl1 : (O ++ beB x.kind 1).length ≤ 90000001 := by rw [List.length_append, beB_len]; omega
  obtain ⟨O1, HO1⟩ : ∃ O1, Hid (O ++ beB x.kind 1 = O1) := ⟨_, hide rfl⟩
  rw [unhide HO1] at hl1
  rcases valB_kind hx with hk | hk | hk | hk
  · have HW := hide (show O ++ valE x = O1 ++ beB x.num 1 by rw [unhide HV, if_pos hk, ← List.append_assoc, unhide HO1])
    have e1 : (x.kind == 1) = true := beq_iff_eq.2 hk
    clear hx hk
    go_enter Tryz.func105, Tryz.ntmps105
    go_wp2_with (first
      | (go_at_call 120; refine (number_any g h0 h1 h2 v2 O1 _ 1 _ W2 (by omega) (by omega)).mono ?_; rintro e w3 ⟨rfl, v3, W3, K3, B3⟩)
      | (go_at_call 120; refine (number_any g h0 h1 h2 v O _ 1 _ W0 (by omega) (by omega)).mono ?_; rintro e w2 ⟨rfl, v2, W2, K2, B2⟩; rw [unhide HO1] at W2; obtain ⟨q0, q1, q2, q3⟩ := rowV (R0.wk K2 (by omega) hne)))
    exact bodyPost_end (by simp [results, Tryz.results105, go_sem]) rfl ⟨rfl, v3, by rw [unhide HW]; exact W3, (K2.trans K3).from, B0.trans (B2.trans B3)⟩
  · have HW := hide (show O ++ valE x = O1 ++ beB x.num 8 by rw [unhide HV, if_neg (by omega), if_pos hk, ← List.append_assoc, unhide HO1])
    have e1 : (x.kind == 1) = false := beq_eq_false_iff_ne.2 (by omega)
    have e2 : (x.kind == 2) = true := beq_iff_eq.2 hk
    clear hx hk
    go_enter Tryz.func105, Tryz.ntmps105
    go_wp2_with (first
      | (go_at_call 120; refine (number_any g h0 h1 h2 v2 O1 _ 8 _ W2 (by omega) (by omega)).mono ?_; rintro e w3 ⟨rfl, v3, W3, K3, B3⟩)
      | (go_at_call 120; refine (number_any g h0 h1 h2 v O _ 1 _ W0 (by omega) (by omega)).mono ?_; rintro e w2 ⟨rfl, v2, W2, K2, B2⟩; rw [unhide HO1] at W2; obtain ⟨q0, q1, q2, q3⟩ := rowV (R0.wk K2 (by omega) hne)))
    exact bodyPost_end (by simp [results, Tryz.results105, go_sem]) rfl ⟨rfl, v3, by rw [unhide HW]; exact W3, (K2.trans K3).from, B0.trans (B2.trans B3)⟩
  · have HW := hide (show O ++ valE x = O1 ++ textB x.text by rw [unhide HV, if_neg (by omega), if_neg (by omega), if_pos hk, ← List.append_assoc, unhide HO1])
    have e1 : (x.kind == 1) = false := beq_eq_false_iff_ne.2 (by omega)
    have e2 : (x.kind == 2) = false := beq_eq_false_iff_ne.2 (by omega)
    have e3 : (x.kind == 3) = true := beq_iff_eq.2 hk
    clear hx hk
    go_enter Tryz.func105, Tryz.ntmps105
    go_wp2_with (first
      | (go_at_call 121; refine (text_any g h0 h1 h2 v2 O1 _ _ W2 (by omega) hs).mono ?_; rintro e w3 ⟨rfl, v3, W3, K3, B3⟩)
      | (go_at_call 120; refine (number_any g h0 h1 h2 v O _ 1 _ W0 (by omega) (by omega)).mono ?_; rintro e w2 ⟨rfl, v2, W2, K2, B2⟩; rw [unhide HO1] at W2; obtain ⟨q0, q1, q2, q3⟩ := rowV (R0.wk K2 (by omega) hne)))
    exact bodyPost_end (by simp [results, Tryz.results105, go_sem]) rfl ⟨rfl, v3, by rw [unhide HW]; exact W3, (K2.trans K3).from, B0.trans (B2.trans B3)⟩
  · have HW := hide (show O ++ valE x = O1 ++ (beB x.names.length 1 ++ x.names.flatMap textB) by rw [unhide HV, if_neg (by omega), if_neg (by omega), if_neg (by omega), if_pos hk, ← List.append_assoc, unhide HO1])
    have e1 : (x.kind == 1) = false := beq_eq_false_iff_ne.2 (by omega)
    have e2 : (x.kind == 2) = false := beq_eq_false_iff_ne.2 (by omega)
    have e3 : (x.kind == 3) = false := beq_eq_false_iff_ne.2 (by omega)
    have e4 : (x.kind == 4) = true := beq_iff_eq.2 hk
    clear hx hk
    go_enter Tryz.func105, Tryz.ntmps105
    go_wp2_with (first
      | (go_at_call 120; refine (number_any g h0 h1 h2 v2 O1 _ 1 _ W2 (by omega) (by omega)).mono ?_; rintro e w3 ⟨rfl, v3, W3, K3, B3⟩; obtain ⟨p0, p1, p2, p3⟩ := rowV ((R0.wk K2 (by omega) hne).wk K3 (by omega) (fun e => by rcases K2.2.1 _ e with y | y; exact hne y; simp at y; omega)))
      | (go_at_call 120; refine (number_any g h0 h1 h2 v O _ 1 _ W0 (by omega) (by omega)).mono ?_; rintro e w2 ⟨rfl, v2, W2, K2, B2⟩; rw [unhide HO1] at W2; obtain ⟨q0, q1, q2, q3⟩ := rowV (R0.wk K2 (by omega) hne)))
    have KT := (K2.trans K3).from
    have BT := B0.trans (B2.trans B3)
    obtain ⟨O3, HO3⟩ : ∃ O3, Hid (O1 ++ beB (nn : Int) 1 = O3) := ⟨_, hide rfl⟩
    have hl3 : O3.length ≤ 90000002 := by rw [← unhide HO3, List.length_append, beB_len]; omega
    rw [unhide HO3] at W3
    have HR := hide (show O3 ++ (x.names.drop 0).flatMap textB = O ++ valE x by rw [unhide HW, List.drop_zero, ← unhide HO3, List.append_assoc, hN.len])
    have Hsz := hide (setB_sizes (show setB x.names = true by have := unhide Hx; unfold valB at this; simp [beq_iff_eq.1 e4] at this; exact this.1.1))
    have Hnl := hide hN.len
    have hn64 : nn ≤ 64 := by rw [hN.len]; exact (unhide Hsz).1
    clear K2 K3 B2 B3 W0 R0 W2 B0
    go_loopw [40] (fun i wr => ∃ (k : Nat) (v' : Value) (O' : List Int), k ≤ nn ∧ i = .int .i64 k ∧ Hid (O' ++ (x.names.drop k).flatMap textB = O ++ valE x) ∧ O'.length ≤ 90000002 + 33 * k ∧ Wr wr g h0 h1 h2 v' O' ∧ WK g w v wr v' ∧ Below g w wr) (fun i _ => nn - (intOf i).toNat)
    case atStart => exact ⟨0, v3, O3, Nat.zero_le _, rfl, HR, by omega, W3, KT, BT⟩
    case round =>
      obtain ⟨k, v', O', hk, rfl, HR, hOl, W4, K4, B4⟩ := hrel
      by_cases hlt : k < nn
      · have ilt : (k : Int) < (nn : Int) := by omega
        have hkl : k < x.names.length := by rw [← unhide Hnl]; exact hlt
        obtain ⟨b, off, rfl, _, hc⟩ := (hN.below (hb0.trans (B4.mono hB)) (Nat.le_refl _)).cells k hlt
        have hsk := (unhide Hsz).2 (nth x.names k) (by rw [nth_eq _ _ hkl]; exact List.getElem_mem hkl)
        have HR2 := hide (show (O' ++ textB (nth x.names k)) ++ (x.names.drop (k + 1)).flatMap textB = O ++ valE x by
          rw [← unhide HR, List.drop_eq_getElem_cons hkl, List.flatMap_cons, nth_eq _ _ hkl, List.append_assoc])
        have Hlt := hide hlt
        clear HR
        generalize nth x.names k = s at hc hsk HR2
        have hls : (O' ++ textB s).length ≤ 90000002 + 33 * (k + 1) := by rw [List.length_append, textB, List.length_append, beB_len, strB_len]; omega
        go_wp2_with (go_at_call 121; refine (text_any g h0 h1 h2 v' O' s _ W4 (by omega) (by omega)).mono ?_; rintro e w5 ⟨rfl, v5, W5, K5, B5⟩)
        go_roundw
        case rel => exact ⟨k + 1, v5, _, unhide Hlt, by go_num, HR2, hls, W5, K4.trans K5, B4.trans B5⟩
        case measure => have := unhide Hlt; simp [intOf]; omega
      · have e : k = nn := by omega
        subst e
        have HX := hide (show O' = O ++ valE x by
          have := unhide HR
          rw [List.drop_of_length_le (by rw [← unhide Hnl]; exact Nat.le_refl _)] at this
          simpa using this)
        go_wp2_with fail
        exact bodyPost_end (by simp [results, Tryz.results105, go_sem]) rfl ⟨rfl, v', by rw [← unhide HX]; exact W4, K4, B4⟩

end Go.Proofs.YtpbopjgmiaoomaaGreatDoor

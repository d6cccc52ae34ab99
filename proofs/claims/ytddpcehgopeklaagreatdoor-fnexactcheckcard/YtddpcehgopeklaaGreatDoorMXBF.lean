/-
  ONB, NUA, NUB, NUD, NUC. Own work.
-/
import Derived.Test.YtddpcehgopeklaaGreatDoorMXBE
import Derived.Test.YtddpcehgopeklaaGreatDoorMXAE
import Derived.Test.YtddpcehgopeklaaGreatDoorMXAO
import Derived.Test.YtddpcehgopeklaaGreatDoorMXAH
import Derived.Test.YtddpcehgopeklaaGreatDoorMXAP
import Derived.Deep.AppendLies
import Derived.Deep.RegionLaw
import Derived.Test.YtddpcehgopeklaaGreatDoorMXAF
namespace Go.Proofs.YtddpcehgopeklaaGreatDoor
open Go.RowKit
set_option linter.unusedVariables false

/-- a node's cells -/
def nd5 (x : Nd) (u k : Value) : List Value := [.int .i64 x.op, .int .i64 x.num, .string x.text, u, k]

def ndC : List Nd → List Value → List Value → List Value
  | x :: N, u :: nv, k :: kv => nd5 x u k ++ ndC N nv kv
  | _, _, _ => []

theorem ndC_len : ∀ (N : List Nd) (nv kv : List Value), nv.length = N.length → kv.length = N.length → (ndC N nv kv).length = N.length * 5
  | [], _, _, _, _ => by simp [ndC]
  | x :: N, [], _, h, _ => by simp at h
  | x :: N, _ :: _, [], _, h => by simp at h
  | x :: N, u :: nv, k :: kv, h, h' => by
    have := ndC_len N nv kv (by simpa using h) (by simpa using h')
    simp only [ndC, nd5, List.length_append, List.length_cons, List.length_nil, this]; omega

theorem ndC_snoc : ∀ (N : List Nd) (nv kv : List Value) (x : Nd) (u k : Value), nv.length = N.length → kv.length = N.length → ndC (N ++ [x]) (nv ++ [u]) (kv ++ [k]) = ndC N nv kv ++ nd5 x u k
  | [], [], [], x, u, k, _, _ => by simp [ndC]
  | [], _ :: _, _, x, u, k, h, _ => by simp at h
  | [], [], _ :: _, x, u, k, _, h => by simp at h
  | y :: N, [], _, x, u, k, h, _ => by simp at h
  | y :: N, _ :: _, [], x, u, k, _, h => by simp at h
  | y :: N, z :: nv, t :: kv, x, u, k, h, h' => by
    have := ndC_snoc N nv kv x u k (by simpa using h) (by simpa using h')
    simp only [List.cons_append, ndC, this, List.append_assoc]

theorem ndC_at : ∀ (N : List Nd) (nv kv : List Value) (j : Nat) (h : j < N.length) (h' : j < nv.length) (h2 : j < kv.length), ∀ r, r < 5 → (ndC N nv kv)[j * 5 + r]? = (nd5 N[j] nv[j] kv[j])[r]?
  | x :: N, u :: nv, k :: kv, 0, _, _, _, r, hr => by
    rw [ndC, Nat.zero_mul, Nat.zero_add, List.getElem?_append_left (by simp [nd5]; omega)]
    rfl
  | x :: N, u :: nv, k :: kv, j + 1, h, h', h2, r, hr => by
    have ih := ndC_at N nv kv j (by simpa using h) (by simpa using h') (by simpa using h2) r hr
    rw [ndC, List.getElem?_append_right (by simp [nd5]; omega)]
    have e : (j + 1) * 5 + r - (nd5 x u k).length = j * 5 + r := by simp [nd5]; omega
    rw [e, ih]
    rfl
  | [], _, _, _, h, _, _, _, _ => absurd h (by simp)
  | _ :: _, [], _, _, _, h, _, _, _ => absurd h (by simp)
  | _ :: _, _ :: _, [], _, _, _, h, _, _ => absurd h (by simp)

theorem ndC_set : ∀ (N : List Nd) (nv kv : List Value) (j : Nat) (h : j < N.length) (hl : nv.length = N.length) (hl' : kv.length = N.length) (y : Nd), ndC (N.set j y) nv kv = (((ndC N nv kv).set (j * 5) (.int .i64 y.op)).set (j * 5 + 1) (.int .i64 y.num)).set (j * 5 + 2) (.string y.text)
  | x :: N, u :: nv, k :: kv, 0, _, _, _, y => by simp [ndC, nd5]
  | x :: N, u :: nv, k :: kv, j + 1, h, hl, hl', y => by
    have ih := ndC_set N nv kv j (by simpa using h) (by simpa using hl) (by simpa using hl') y
    have e : ∀ (A : List Value) i v, (nd5 x u k ++ A).set ((j + 1) * 5 + i) v = nd5 x u k ++ A.set (j * 5 + i) v := fun A i v => by
      rw [List.set_append_right _ _ (by simp [nd5]; omega)]
      congr 2
      simp [nd5]; omega
    simp only [List.set_cons_succ, ndC]
    rw [ih]
    have e0 := e (ndC N nv kv) 0 (.int .i64 y.op)
    simp only [Nat.add_zero] at e0
    rw [e0, e, e]
  | [], _, _, _, h, _, _, _ => absurd h (by simp)
  | _ :: _, [], _, _, _, hl, _, _ => by simp at hl
  | _ :: _, _ :: _, [], _, _, _, hl, _ => by simp at hl

/-- nodes in a row of the call's own, their names and kids in rows of their own -/
structure OwnN (w : World) (lo : Nat) (v : Value) (N : List Nd) (nv kv : List Value) : Prop where
  len : nv.length = N.length
  lenk : kv.length = N.length
  own : w.ownsRow lo 53 5 v N.length (ndC N nv kv)
  names : ∀ j, (h : j < N.length) → (h' : j < nv.length) → w.ownsRow lo 9 1 nv[j] N[j].names.length (N[j].names.map Value.string)
  kids : ∀ j, (h : j < N.length) → (h' : j < kv.length) → w.ownsRow lo 3 1 kv[j] N[j].kids.length (intsV N[j].kids)
  apart : ∀ i j, (hij : i < j) → (h : j < nv.length) → ∀ q, (nv[i]'(by omega)).ownBlock = some q → nv[j].ownBlock ≠ some q
  apartk : ∀ i j, (hij : i < j) → (h : j < kv.length) → ∀ q, (kv[i]'(by omega)).ownBlock = some q → kv[j].ownBlock ≠ some q

theorem OwnN.nil (w : World) (lo : Nat) : OwnN w lo (.slice none 0 0) [] [] [] :=
  ⟨rfl, rfl, World.ownsRow_nil _ _ _ _, fun j h => absurd h (by simp), fun j h => absurd h (by simp), fun i j _ h => absurd h (by simp), fun i j _ h => absurd h (by simp)⟩

theorem owns_blocksN {w w' : World} {base : Nat} {e : TypeId} {size n : Nat} {v : Value} {xs : List Value} (h : w.ownsRow base e size v n xs) (hd : ∀ q, v.ownBlock = some q → w'.heap[q]? = w.heap[q]?) : w'.ownsRow base e size v n xs := by
  refine ⟨h.1, ?_⟩
  rcases h.2 with h2 | ⟨g, cap, cur, hv, hb, hg, h4⟩
  · exact .inl h2
  · exact .inr ⟨g, cap, cur, hv, hb, (hd g (by rw [hv]; rfl)).trans hg, h4⟩

theorem OwnN.lts {w : World} {lo : Nat} {v : Value} {N : List Nd} {nv kv : List Value} (h : OwnN w lo v N nv kv) : (∀ q, v.ownBlock = some q → lo ≤ q ∧ q < w.heap.size) ∧ (∀ j, (hj : j < nv.length) → ∀ q, nv[j].ownBlock = some q → lo ≤ q ∧ q < w.heap.size) ∧ ∀ j, (hj : j < kv.length) → ∀ q, kv[j].ownBlock = some q → lo ≤ q ∧ q < w.heap.size :=
  ⟨h.own.lt, fun j hj => (h.names j (by rw [← h.len]; exact hj) hj).lt, fun j hj => (h.kids j (by rw [← h.lenk]; exact hj) hj).lt⟩

theorem OwnN.upto {w w' : World} {lo : Nat} {v : Value} {N : List Nd} {nv kv : List Value} (h : OwnN w lo v N nv kv) (h1 : ∀ q, v.ownBlock = some q → w'.heap[q]? = w.heap[q]?) (h2 : ∀ j, (hj : j < nv.length) → ∀ q, nv[j].ownBlock = some q → w'.heap[q]? = w.heap[q]?) (h3 : ∀ j, (hj : j < kv.length) → ∀ q, kv[j].ownBlock = some q → w'.heap[q]? = w.heap[q]?) : OwnN w' lo v N nv kv :=
  ⟨h.len, h.lenk, owns_blocksN h.own h1, fun j hj hj' => owns_blocksN (h.names j hj hj') (h2 j hj'), fun j hj hj' => owns_blocksN (h.kids j hj hj') (h3 j hj'), h.apart, h.apartk⟩

theorem OwnN.blocks {w w' : World} {lo : Nat} {v : Value} {N : List Nd} {nv kv : List Value} (h : OwnN w lo v N nv kv) (hd : ∀ k, lo ≤ k → k < w.heap.size → w'.heap[k]? = w.heap[k]?) : OwnN w' lo v N nv kv :=
  h.upto (fun q hq => hd q (h.lts.1 q hq).1 (h.lts.1 q hq).2) (fun j hj q hq => hd q (h.lts.2.1 j hj q hq).1 (h.lts.2.1 j hj q hq).2) (fun j hj q hq => hd q (h.lts.2.2 j hj q hq).1 (h.lts.2.2 j hj q hq).2)

/-- rows of one type are not of another -/
theorem own_ne_ownN {w : World} {B B' n n' size size' : Nat} {e e' : TypeId} {v v' : Value} {xs xs' : List Value} (h : w.ownsRow B e size v n xs) (h' : w.ownsRow B' e' size' v' n' xs') (hT : e ≠ e') : ∀ q, v.ownBlock = some q → v'.ownBlock ≠ some q := fun q hq hq' => by
  rcases h.2 with ⟨hv, _⟩ | ⟨g, cap, cur, hv, _, hg, _⟩
  · rw [hv] at hq; cases hq
  rcases h'.2 with ⟨hv', _⟩ | ⟨g', cap', cur', hv', _, hg', _⟩
  · rw [hv'] at hq'; cases hq'
  rw [hv] at hq
  rw [hv'] at hq'
  obtain rfl : g = q := by simpa [Value.ownBlock] using hq
  obtain rfl : g' = g := by simpa [Value.ownBlock] using hq'
  rw [hg] at hg'
  injection hg' with hg'
  injection hg' with _ hg'
  exact hT hg'

theorem OwnN.upd {w w' : World} {lo : Nat} {v : Value} {N : List Nd} {nv kv : List Value} (h : OwnN w lo v N nv kv) (j : Nat) (hj : j < N.length) (hj' : j < nv.length) (hj2 : j < kv.length) (y : Nd)
    (hown : w'.ownsRow lo 53 5 v N.length (ndC (N.set j y) nv kv)) (hnm : w'.ownsRow lo 9 1 nv[j] y.names.length (y.names.map Value.string)) (hkd : w'.ownsRow lo 3 1 kv[j] y.kids.length (intsV y.kids))
    (hoth : ∀ i, (hi : i < nv.length) → i ≠ j → ∀ q, nv[i].ownBlock = some q → w'.heap[q]? = w.heap[q]?) (hotk : ∀ i, (hi : i < kv.length) → i ≠ j → ∀ q, kv[i].ownBlock = some q → w'.heap[q]? = w.heap[q]?) : OwnN w' lo v (N.set j y) nv kv :=
  ⟨by rw [List.length_set]; exact h.len, by rw [List.length_set]; exact h.lenk, by rw [List.length_set]; exact hown, fun i hi hi' => by
    rw [List.getElem_set]
    split
    · rename_i e; subst e; exact hnm
    · rename_i e
      exact owns_blocksN (h.names i (by simpa using hi) hi') (hoth i hi' (fun e' => e e'.symm)), fun i hi hi' => by
    rw [List.getElem_set]
    split
    · rename_i e; subst e; exact hkd
    · rename_i e
      exact owns_blocksN (h.kids i (by simpa using hi) hi') (hotk i hi' (fun e' => e e'.symm)), h.apart, h.apartk⟩

/-- a node's mark -/
def mkD (k m p : Nat) : Nd := ⟨((k : Nat) : Int), ((k + 1 : Nat) : Int), markS (k + 2), marks (k + 3) m, marksZ (k + 3 + m) p⟩

def nlen (x : Nd) : Nat := x.names.length + x.kids.length

def mdl : Nat → List Nd → List Nd
  | _, [] => []
  | k, x :: N => mkD k x.names.length x.kids.length :: mdl (k + 3 + nlen x) N

/-- the mark behind the first j -/
def mdK (k : Nat) (N : List Nd) (j : Nat) : Nat := k + 3 * j + ((N.take j).map nlen).sum

theorem mdl_len : ∀ (k : Nat) (N : List Nd), (mdl k N).length = N.length
  | _, [] => rfl
  | k, x :: N => by simp [mdl, mdl_len]

theorem mdK_succ (k : Nat) (N : List Nd) (j : Nat) (h : j < N.length) : mdK k N (j + 1) = mdK k N j + 3 + nlen N[j] := by
  rw [mdK, mdK, List.take_succ_eq_append_getElem h, List.map_append, List.sum_append]
  simp; omega

theorem mdK_zero (k : Nat) (N : List Nd) : mdK k N 0 = k := by simp [mdK]

theorem mdK_mono (k : Nat) (N : List Nd) (j : Nat) (h : j ≤ N.length) : mdK k N j ≤ mdK k N N.length := by
  have : ∀ d, j + d ≤ N.length → mdK k N j ≤ mdK k N (j + d) := by
    intro d
    induction d with
    | zero => intro _; exact Nat.le_refl _
    | succ d ih => intro hd; have := ih (by omega); have := mdK_succ k N (j + d) (by omega); rw [← Nat.add_assoc]; omega
  have := this (N.length - j) (by omega)
  rwa [show j + (N.length - j) = N.length by omega] at this

theorem mdl_at : ∀ (k : Nat) (N : List Nd) (j : Nat) (h : j < N.length) (h' : j < (mdl k N).length), (mdl k N)[j] = mkD (mdK k N j) N[j].names.length N[j].kids.length
  | k, x :: N, 0, _, _ => by simp [mdl, mdK]
  | k, x :: N, j + 1, h, h' => by
    have ih := mdl_at (k + 3 + nlen x) N j (by simpa using h) (by simpa [mdl] using h')
    simp only [mdl, List.getElem_cons_succ]
    rw [ih]
    congr 1
    simp only [mdK, List.take_succ_cons, List.map_cons, List.sum_cons]; omega

/-- the first j are marked -/
def mixD (k : Nat) (N : List Nd) (j : Nat) : List Nd := (mdl k N).take j ++ N.drop j

theorem mixD_zero (k : Nat) (N : List Nd) : mixD k N 0 = N := by simp [mixD]
theorem mixD_full (k : Nat) (N : List Nd) : mixD k N N.length = mdl k N := by rw [mixD, List.drop_length, List.append_nil, List.take_of_length_le (by rw [mdl_len]; exact Nat.le_refl _)]
theorem mixD_len (k : Nat) (N : List Nd) (j : Nat) (h : j ≤ N.length) : (mixD k N j).length = N.length := by
  rw [mixD, List.length_append, List.length_take, List.length_drop, mdl_len]; omega
theorem mixD_at (k : Nat) (N : List Nd) (j : Nat) (h : j < N.length) (h' : j < (mixD k N j).length) : (mixD k N j)[j] = N[j] := by
  have hl : ((mdl k N).take j).length = j := by rw [List.length_take, mdl_len]; omega
  simp only [mixD]
  rw [List.getElem_append_right (by omega)]
  simp only [hl, Nat.sub_self, List.getElem_drop, Nat.add_zero]
theorem mixD_set (k : Nat) (N : List Nd) (j : Nat) (h : j < N.length) : (mixD k N j).set j (mkD (mdK k N j) N[j].names.length N[j].kids.length) = mixD k N (j + 1) := by
  have hl : ((mdl k N).take j).length = j := by rw [List.length_take, mdl_len]; omega
  rw [mixD, List.drop_eq_getElem_cons h, List.set_append_right _ _ (by omega), hl, Nat.sub_self, List.set_cons_zero, mixD, List.take_succ_eq_append_getElem (by rw [mdl_len]; exact h), mdl_at k N j h, List.append_assoc]
  rfl

/-- all of it lies below hi -/
def InN (v : Value) (nv kv : List Value) (hi : Nat) : Prop := (∀ q, v.ownBlock = some q → q < hi) ∧ (∀ j, (hj : j < nv.length) → ∀ q, nv[j].ownBlock = some q → q < hi) ∧ ∀ j, (hj : j < kv.length) → ∀ q, kv[j].ownBlock = some q → q < hi

/-- blocks beside these are as they were -/
def KeepN (w w' : World) (v : Value) (nv kv : List Value) : Prop := ∀ q, q < w.heap.size → v.ownBlock ≠ some q → (∀ j, (hj : j < nv.length) → nv[j].ownBlock ≠ some q) → (∀ j, (hj : j < kv.length) → kv[j].ownBlock ≠ some q) → w'.heap[q]? = w.heap[q]?

/-- a small node -/
def okN (x : Nd) : Prop := x.names.length ≤ 1048576 ∧ x.kids.length ≤ 1048576 ∧ ∀ s ∈ x.names, s.size ≤ maxLen

end Go.Proofs.YtddpcehgopeklaaGreatDoor

namespace Go.Proofs.YtddpcehgopeklaaGreatDoor
open Go.RowKit
set_option linter.unusedVariables false

/-- a tree's node, without its kids -/
def exN : Ex → Nd
  | .int _ n => ⟨1, n, ⟨#[]⟩, [], []⟩
  | .text _ s => ⟨2, 0, s, [], []⟩
  | .bool _ b => ⟨3, if b then 1 else 0, ⟨#[]⟩, [], []⟩
  | .set _ _ _ _ ss => ⟨4, 0, ⟨#[]⟩, ss, []⟩
  | .name _ s => ⟨5, 0, s, [], []⟩
  | .attr _ n => ⟨6, n, ⟨#[]⟩, [], []⟩
  | .lett _ n => ⟨7, n, ⟨#[]⟩, [], []⟩
  | .un _ op _ => ⟨op, 0, ⟨#[]⟩, [], []⟩
  | .bin _ op _ _ => ⟨op, 0, ⟨#[]⟩, [], []⟩
  | .ite .. => ⟨27, 0, ⟨#[]⟩, [], []⟩

/-- a node of the call's own -/
def NdA (x : Nd) (w : World) (r : Ending) (w' : World) : Prop := (∃ u cu, r = .returned (.agg #[.int .i64 x.op, .int .i64 x.num, .string x.text, .slice u x.names.length cu, .slice none 0 0]) ∧ w'.ownsRow w.heap.size 9 1 (.slice u x.names.length cu) x.names.length (x.names.map Value.string)) ∧ Below w.heap.size w w'

theorem row5N {w : World} {b : Nat} {v0 v1 v2 v3 v4 : Value} {t : TypeId} (R : Row w b #[v0, v1, v2, v3, v4] t) : w.cell? ⟨b, 0, none⟩ = some v0 ∧ w.cell? ⟨b, 1, none⟩ = some v1 ∧ w.cell? ⟨b, 2, none⟩ = some v2 ∧ w.cell? ⟨b, 3, none⟩ = some v3 ∧ w.cell? ⟨b, 4, none⟩ = some v4 := ⟨R.cell 0, R.cell 1, R.cell 2, R.cell 3, R.cell 4⟩

set_option maxRecDepth 100000 in
set_option maxHeartbeats 1600000 in
theorem node_int (i n : Int) (w : World) : Calls Tryz.prog 114 #[.iface 198 (.agg #[.int .i64 i, .int .i64 n])] w (NdA (exN (.int i n)) w) := by
  have hh := ta_hit (T := 198) Tryz.underlying198 88
  go_enter Tryz.func114, Tryz.ntmps114
  go_wp2_with fail
  refine bodyPost_ret (v := .agg #[.int .i64 1, .int .i64 n, .string ⟨#[]⟩, .slice none 0 0, .slice none 0 0]) (by simp [results, Tryz.results114, go_sem]) rfl ⟨⟨none, 0, rfl, World.ownsRow_nil _ _ _ _⟩, ?_⟩
  exact ((Below.refl w.heap.size w).alloc (Nat.le_refl _) _).alloc (by simp) _

set_option maxRecDepth 100000 in
set_option maxHeartbeats 1600000 in
theorem node_text (i : Int) (s : ByteArray) (w : World) : Calls Tryz.prog 114 #[.iface 200 (.agg #[.int .i64 i, .string s])] w (NdA (exN (.text i s)) w) := by
  have a0 := ta_miss (S := 200) (T := 198) Tryz.underlying198 Tryz.zeroValue198 (by decide) 88
  have hh := ta_hit (T := 200) Tryz.underlying200 88
  go_enter Tryz.func114, Tryz.ntmps114
  go_wp2_with fail
  refine bodyPost_ret (v := .agg #[.int .i64 2, .int .i64 0, .string s, .slice none 0 0, .slice none 0 0]) (by simp [results, Tryz.results114, go_sem]) rfl ⟨⟨none, 0, rfl, World.ownsRow_nil _ _ _ _⟩, ?_⟩
  exact ((Below.refl w.heap.size w).alloc (Nat.le_refl _) _).alloc (by simp) _

set_option maxRecDepth 100000 in
set_option maxHeartbeats 1600000 in
theorem node_name (i : Int) (s : ByteArray) (w : World) : Calls Tryz.prog 114 #[.iface 127 (.agg #[.int .i64 i, .string s])] w (NdA (exN (.name i s)) w) := by
  have a0 := ta_miss (S := 127) (T := 198) Tryz.underlying198 Tryz.zeroValue198 (by decide) 88
  have a1 := ta_miss (S := 127) (T := 200) Tryz.underlying200 Tryz.zeroValue200 (by decide) 88
  have a2 := ta_miss (S := 127) (T := 202) Tryz.underlying202 Tryz.zeroValue202 (by decide) 88
  have a3 := ta_miss (S := 127) (T := 204) Tryz.underlying204 Tryz.zeroValue204 (by decide) 88
  have hh := ta_hit (T := 127) Tryz.underlying127 88
  go_enter Tryz.func114, Tryz.ntmps114
  go_wp2_with fail
  refine bodyPost_ret (v := .agg #[.int .i64 5, .int .i64 0, .string s, .slice none 0 0, .slice none 0 0]) (by simp [results, Tryz.results114, go_sem]) rfl ⟨⟨none, 0, rfl, World.ownsRow_nil _ _ _ _⟩, ?_⟩
  exact ((Below.refl w.heap.size w).alloc (Nat.le_refl _) _).alloc (by simp) _

set_option maxRecDepth 100000 in
set_option maxHeartbeats 1600000 in
theorem node_attr (i n : Int) (w : World) : Calls Tryz.prog 114 #[.iface 131 (.agg #[.int .i64 i, .int .i64 n])] w (NdA (exN (.attr i n)) w) := by
  have a0 := ta_miss (S := 131) (T := 198) Tryz.underlying198 Tryz.zeroValue198 (by decide) 88
  have a1 := ta_miss (S := 131) (T := 200) Tryz.underlying200 Tryz.zeroValue200 (by decide) 88
  have a2 := ta_miss (S := 131) (T := 202) Tryz.underlying202 Tryz.zeroValue202 (by decide) 88
  have a3 := ta_miss (S := 131) (T := 204) Tryz.underlying204 Tryz.zeroValue204 (by decide) 88
  have a4 := ta_miss (S := 131) (T := 127) Tryz.underlying127 Tryz.zeroValue127 (by decide) 88
  have hh := ta_hit (T := 131) Tryz.underlying131 88
  go_enter Tryz.func114, Tryz.ntmps114
  go_wp2_with fail
  refine bodyPost_ret (v := .agg #[.int .i64 6, .int .i64 n, .string ⟨#[]⟩, .slice none 0 0, .slice none 0 0]) (by simp [results, Tryz.results114, go_sem]) rfl ⟨⟨none, 0, rfl, World.ownsRow_nil _ _ _ _⟩, ?_⟩
  exact ((Below.refl w.heap.size w).alloc (Nat.le_refl _) _).alloc (by simp) _

set_option maxRecDepth 100000 in
set_option maxHeartbeats 1600000 in
theorem node_lett (i n : Int) (w : World) : Calls Tryz.prog 114 #[.iface 130 (.agg #[.int .i64 i, .int .i64 n])] w (NdA (exN (.lett i n)) w) := by
  have a0 := ta_miss (S := 130) (T := 198) Tryz.underlying198 Tryz.zeroValue198 (by decide) 88
  have a1 := ta_miss (S := 130) (T := 200) Tryz.underlying200 Tryz.zeroValue200 (by decide) 88
  have a2 := ta_miss (S := 130) (T := 202) Tryz.underlying202 Tryz.zeroValue202 (by decide) 88
  have a3 := ta_miss (S := 130) (T := 204) Tryz.underlying204 Tryz.zeroValue204 (by decide) 88
  have a4 := ta_miss (S := 130) (T := 127) Tryz.underlying127 Tryz.zeroValue127 (by decide) 88
  have a5 := ta_miss (S := 130) (T := 131) Tryz.underlying131 Tryz.zeroValue131 (by decide) 88
  have hh := ta_hit (T := 130) Tryz.underlying130 88
  go_enter Tryz.func114, Tryz.ntmps114
  go_wp2_with fail
  refine bodyPost_ret (v := .agg #[.int .i64 7, .int .i64 n, .string ⟨#[]⟩, .slice none 0 0, .slice none 0 0]) (by simp [results, Tryz.results114, go_sem]) rfl ⟨⟨none, 0, rfl, World.ownsRow_nil _ _ _ _⟩, ?_⟩
  exact ((Below.refl w.heap.size w).alloc (Nat.le_refl _) _).alloc (by simp) _

set_option maxRecDepth 100000 in
set_option maxHeartbeats 1600000 in
theorem node_bool (i : Int) (b : Bool) (w : World) : Calls Tryz.prog 114 #[.iface 202 (.agg #[.int .i64 i, .bool b])] w (NdA (exN (.bool i b)) w) := by
  have a0 := ta_miss (S := 202) (T := 198) Tryz.underlying198 Tryz.zeroValue198 (by decide) 88
  have a1 := ta_miss (S := 202) (T := 200) Tryz.underlying200 Tryz.zeroValue200 (by decide) 88
  have hh := ta_hit (T := 202) Tryz.underlying202 88
  cases b
  · go_enter Tryz.func114, Tryz.ntmps114
    go_wp2_with fail
    refine bodyPost_ret (v := .agg #[.int .i64 3, .int .i64 0, .string ⟨#[]⟩, .slice none 0 0, .slice none 0 0]) (by simp [results, Tryz.results114, go_sem]) rfl ⟨⟨none, 0, rfl, World.ownsRow_nil _ _ _ _⟩, ?_⟩
    exact ((Below.refl w.heap.size w).alloc (Nat.le_refl _) _).alloc (by simp) _
  · go_enter Tryz.func114, Tryz.ntmps114
    go_wp2_with fail
    refine bodyPost_ret (v := .agg #[.int .i64 3, .int .i64 1, .string ⟨#[]⟩, .slice none 0 0, .slice none 0 0]) (by simp [results, Tryz.results114, go_sem]) rfl ⟨⟨none, 0, rfl, World.ownsRow_nil _ _ _ _⟩, ?_⟩
    exact ((Below.refl w.heap.size w).alloc (Nat.le_refl _) _).alloc (by simp) _

set_option maxRecDepth 100000 in
set_option maxHeartbeats 1600000 in
theorem node_un (i op : Int) (t1 : TypeId) (u1 : Value) (k : Ex) (w : World) : Calls Tryz.prog 114 #[.iface 168 (.agg #[.int .i64 i, .int .i64 op, .iface t1 u1])] w (NdA (exN (.un i op k)) w) := by
  have a0 := ta_miss (S := 168) (T := 198) Tryz.underlying198 Tryz.zeroValue198 (by decide) 88
  have a1 := ta_miss (S := 168) (T := 200) Tryz.underlying200 Tryz.zeroValue200 (by decide) 88
  have a2 := ta_miss (S := 168) (T := 202) Tryz.underlying202 Tryz.zeroValue202 (by decide) 88
  have a3 := ta_miss (S := 168) (T := 204) Tryz.underlying204 Tryz.zeroValue204 (by decide) 88
  have a4 := ta_miss (S := 168) (T := 127) Tryz.underlying127 Tryz.zeroValue127 (by decide) 88
  have a5 := ta_miss (S := 168) (T := 131) Tryz.underlying131 Tryz.zeroValue131 (by decide) 88
  have a6 := ta_miss (S := 168) (T := 130) Tryz.underlying130 Tryz.zeroValue130 (by decide) 88
  have hh := ta_hit (T := 168) Tryz.underlying168 88
  go_enter Tryz.func114, Tryz.ntmps114
  go_wp2_with fail
  refine bodyPost_ret (v := .agg #[.int .i64 op, .int .i64 0, .string ⟨#[]⟩, .slice none 0 0, .slice none 0 0]) (by simp [results, Tryz.results114, go_sem]) rfl ⟨⟨none, 0, rfl, World.ownsRow_nil _ _ _ _⟩, ?_⟩
  exact ((Below.refl w.heap.size w).alloc (Nat.le_refl _) _).alloc (by simp) _

set_option maxRecDepth 100000 in
set_option maxHeartbeats 1600000 in
theorem node_bin (i op : Int) (t1 : TypeId) (u1 : Value) (t2 : TypeId) (u2 : Value) (k l : Ex) (w : World) : Calls Tryz.prog 114 #[.iface 170 (.agg #[.int .i64 i, .int .i64 op, .iface t1 u1, .iface t2 u2])] w (NdA (exN (.bin i op k l)) w) := by
  have a0 := ta_miss (S := 170) (T := 198) Tryz.underlying198 Tryz.zeroValue198 (by decide) 88
  have a1 := ta_miss (S := 170) (T := 200) Tryz.underlying200 Tryz.zeroValue200 (by decide) 88
  have a2 := ta_miss (S := 170) (T := 202) Tryz.underlying202 Tryz.zeroValue202 (by decide) 88
  have a3 := ta_miss (S := 170) (T := 204) Tryz.underlying204 Tryz.zeroValue204 (by decide) 88
  have a4 := ta_miss (S := 170) (T := 127) Tryz.underlying127 Tryz.zeroValue127 (by decide) 88
  have a5 := ta_miss (S := 170) (T := 131) Tryz.underlying131 Tryz.zeroValue131 (by decide) 88
  have a6 := ta_miss (S := 170) (T := 130) Tryz.underlying130 Tryz.zeroValue130 (by decide) 88
  have a7 := ta_miss (S := 170) (T := 168) Tryz.underlying168 Tryz.zeroValue168 (by decide) 88
  have hh := ta_hit (T := 170) Tryz.underlying170 88
  go_enter Tryz.func114, Tryz.ntmps114
  go_wp2_with fail
  refine bodyPost_ret (v := .agg #[.int .i64 op, .int .i64 0, .string ⟨#[]⟩, .slice none 0 0, .slice none 0 0]) (by simp [results, Tryz.results114, go_sem]) rfl ⟨⟨none, 0, rfl, World.ownsRow_nil _ _ _ _⟩, ?_⟩
  exact ((Below.refl w.heap.size w).alloc (Nat.le_refl _) _).alloc (by simp) _

set_option maxRecDepth 100000 in
set_option maxHeartbeats 1600000 in
theorem node_ite (i : Int) (t1 : TypeId) (u1 : Value) (t2 : TypeId) (u2 : Value) (t3 : TypeId) (u3 : Value) (k l m : Ex) (w : World) : Calls Tryz.prog 114 #[.iface 172 (.agg #[.int .i64 i, .iface t1 u1, .iface t2 u2, .iface t3 u3])] w (NdA (exN (.ite i k l m)) w) := by
  have a0 := ta_miss (S := 172) (T := 198) Tryz.underlying198 Tryz.zeroValue198 (by decide) 88
  have a1 := ta_miss (S := 172) (T := 200) Tryz.underlying200 Tryz.zeroValue200 (by decide) 88
  have a2 := ta_miss (S := 172) (T := 202) Tryz.underlying202 Tryz.zeroValue202 (by decide) 88
  have a3 := ta_miss (S := 172) (T := 204) Tryz.underlying204 Tryz.zeroValue204 (by decide) 88
  have a4 := ta_miss (S := 172) (T := 127) Tryz.underlying127 Tryz.zeroValue127 (by decide) 88
  have a5 := ta_miss (S := 172) (T := 131) Tryz.underlying131 Tryz.zeroValue131 (by decide) 88
  have a6 := ta_miss (S := 172) (T := 130) Tryz.underlying130 Tryz.zeroValue130 (by decide) 88
  have a7 := ta_miss (S := 172) (T := 168) Tryz.underlying168 Tryz.zeroValue168 (by decide) 88
  have a8 := ta_miss (S := 172) (T := 170) Tryz.underlying170 Tryz.zeroValue170 (by decide) 88
  have hh := ta_hit (T := 172) Tryz.underlying172 88
  go_enter Tryz.func114, Tryz.ntmps114
  go_wp2_with fail
  refine bodyPost_ret (v := .agg #[.int .i64 27, .int .i64 0, .string ⟨#[]⟩, .slice none 0 0, .slice none 0 0]) (by simp [results, Tryz.results114, go_sem]) rfl ⟨⟨none, 0, rfl, World.ownsRow_nil _ _ _ _⟩, ?_⟩
  exact ((Below.refl w.heap.size w).alloc (Nat.le_refl _) _).alloc (by simp) _

set_option maxRecDepth 100000 in
set_option maxHeartbeats 1600000 in
theorem node_set (i : Int) (a : Option Addr) (n c : Nat) (ss : List ByteArray) (w : World) (hS : Strs w a n c ss) (hl : ss.length ≤ 1048576) : Calls Tryz.prog 114 #[.iface 204 (.agg #[.int .i64 i, .slice a n c])] w (NdA (exN (.set i a n c ss)) w) := by
  have a0 := ta_miss (S := 204) (T := 198) Tryz.underlying198 Tryz.zeroValue198 (by decide) 88
  have a1 := ta_miss (S := 204) (T := 200) Tryz.underlying200 Tryz.zeroValue200 (by decide) 88
  have a2 := ta_miss (S := 204) (T := 202) Tryz.underlying202 Tryz.zeroValue202 (by decide) 88
  have hh := ta_hit (T := 204) Tryz.underlying204 88
  have B2 := ((Below.refl w.heap.size w).alloc (Nat.le_refl _) (.cells #[.int .i64 0, .int .i64 0, .string ⟨#[]⟩, .slice none 0 0, .slice none 0 0] 53)).alloc (by simp) (.cells #[.int .i64 i, .slice a n c] 204)
  have R1 := (Row.new w #[.int .i64 0, .int .i64 0, .string ⟨#[]⟩, .slice none 0 0, .slice none 0 0] 53).alloc (.cells #[.int .i64 i, .slice a n c] 204)
  have HC := hide (cloneC_any a n c ss _ (hS.below B2 (Nat.le_refl _)) hl)
  clear hS
  go_enter Tryz.func114, Tryz.ntmps114
  go_wp2_with fail
  refine (unhide HC).mono ?_
  rintro r w1 ⟨⟨x, cx, rfl, OO⟩, hb1⟩
  have R4 := R1.after hb1 (Nat.le_refl _)
  obtain ⟨x0, x1, x2, x3, x4⟩ := row5N R4
  have f0 := fun j => R4.frozen j
  obtain ⟨p0, p1, p2, p3, p4⟩ := row5N ((((((R4).set 0 (.int .i64 4)).set 1 (.int .i64 0)).set 2 (.string ⟨#[]⟩)).set 3 (.slice x ss.length cx)).set 4 (.slice none 0 0))
  have B4 := B2.trans (hb1.mono (by simp; omega))
  have ne : ∀ q, (Value.slice x ss.length cx).ownBlock = some q → q ≠ w.heap.size := fun q hq h => by have := (OO.lt q hq).1; simp at this; omega
  have HBE := hide ((((((B4).setCell (p := ⟨w.heap.size, 0, none⟩) (Nat.le_refl _) (.int .i64 4)).setCell (p := ⟨w.heap.size, 1, none⟩) (Nat.le_refl _) (.int .i64 0)).setCell (p := ⟨w.heap.size, 2, none⟩) (Nat.le_refl _) (.string ⟨#[]⟩)).setCell (p := ⟨w.heap.size, 3, none⟩) (Nat.le_refl _) (.slice x ss.length cx)).setCell (p := ⟨w.heap.size, 4, none⟩) (Nat.le_refl _) (.slice none 0 0))
  have OE := hide ((own_set3 (own_set3 (own_set3 (own_set3 (own_set3 (own_lowC (base' := w.heap.size) OO (by simp; omega)) ⟨w.heap.size, 0, none⟩ (.int .i64 4) ne) ⟨w.heap.size, 1, none⟩ (.int .i64 0) ne) ⟨w.heap.size, 2, none⟩ (.string ⟨#[]⟩) ne) ⟨w.heap.size, 3, none⟩ (.slice x ss.length cx) ne) ⟨w.heap.size, 4, none⟩ (.slice none 0 0) ne))
  clear R1 R4 B2 B4 hb1 HC OO ne
  dsimp only
  go_wp2_with fail
  refine bodyPost_ret (v := .agg #[.int .i64 4, .int .i64 0, .string ⟨#[]⟩, .slice x ss.length cx, .slice none 0 0]) (by simp [results, Tryz.results114, go_sem, p0, p1, p2, p3, p4]) rfl ?_
  exact ⟨⟨x, cx, rfl, unhide OE⟩, unhide HBE⟩

end Go.Proofs.YtddpcehgopeklaaGreatDoor

namespace Go.Proofs.YtddpcehgopeklaaGreatDoor
open Go.RowKit
set_option linter.unusedVariables false

theorem OwnN.snoc {w1 w2 : World} {lo : Nat} {v v' u k : Value} {N : List Nd} {nv kv : List Value} {x : Nd} (h : OwnN w1 lo v N nv kv)
    (hu : w1.ownsRow lo 9 1 u x.names.length (x.names.map Value.string)) (hk : w1.ownsRow lo 3 1 k x.kids.length (intsV x.kids)) (hua : ∀ j, (hj : j < nv.length) → ∀ q, nv[j].ownBlock = some q → u.ownBlock ≠ some q) (hka : ∀ j, (hj : j < kv.length) → ∀ q, kv[j].ownBlock = some q → k.ownBlock ≠ some q)
    (hown : w2.ownsRow lo 53 5 v' (N.length + 1) (ndC N nv kv ++ nd5 x u k)) (hg : w1.grownBy w2 v.ownBlock) : OwnN w2 lo v' (N ++ [x]) (nv ++ [u]) (kv ++ [k]) := by
  have hl := h.len
  have hlk := h.lenk
  have kpN : ∀ {n : Nat} {y : Value} {xs : List Value}, w1.ownsRow lo 9 1 y n xs → w2.ownsRow lo 9 1 y n xs := fun o => owns_blocksN o (fun q hq => hg.block q (o.lt q hq).2 (fun e => own_ne_ownN o h.own (by decide) q hq e.symm))
  have kpI : ∀ {n : Nat} {y : Value} {xs : List Value}, w1.ownsRow lo 3 1 y n xs → w2.ownsRow lo 3 1 y n xs := fun o => owns_blocksN o (fun q hq => hg.block q (o.lt q hq).2 (fun e => own_ne_ownN o h.own (by decide) q hq e.symm))
  refine ⟨by simp [hl], by simp [hlk], by rw [List.length_append, List.length_singleton, ndC_snoc _ _ _ _ _ _ hl hlk]; exact hown, fun j hj hj' => ?_, fun j hj hj' => ?_, fun i j hij hj q hq => ?_, fun i j hij hj q hq => ?_⟩
  · by_cases hjn : j < nv.length
    · have a1 : (nv ++ [u])[j] = nv[j] := List.getElem_append_left hjn
      have a2 : (N ++ [x])[j] = N[j]'(by omega) := List.getElem_append_left (by omega)
      rw [a1, a2]
      exact kpN (h.names j (by omega) hjn)
    · have e : j = nv.length := by simp at hj'; omega
      subst e
      have a1 : (nv ++ [u])[nv.length]'hj' = u := by simp
      have a2 : (N ++ [x])[nv.length]'hj = x := by simp [hl]
      rw [a1, a2]
      exact kpN hu
  · by_cases hjn : j < kv.length
    · have a1 : (kv ++ [k])[j] = kv[j] := List.getElem_append_left hjn
      have a2 : (N ++ [x])[j] = N[j]'(by omega) := List.getElem_append_left (by omega)
      rw [a1, a2]
      exact kpI (h.kids j (by omega) hjn)
    · have e : j = kv.length := by simp at hj'; omega
      subst e
      have a1 : (kv ++ [k])[kv.length]'hj' = k := by simp
      have a2 : (N ++ [x])[kv.length]'hj = x := by simp [hlk]
      rw [a1, a2]
      exact kpI hk
  · by_cases hjn : j < nv.length
    · rw [List.getElem_append_left hjn]
      rw [List.getElem_append_left (by omega)] at hq
      exact h.apart i j hij hjn q hq
    · have e : j = nv.length := by simp at hj; omega
      subst e
      rw [List.getElem_append_left hij] at hq
      simp
      exact hua i hij q hq
  · by_cases hjn : j < kv.length
    · rw [List.getElem_append_left hjn]
      rw [List.getElem_append_left (by omega)] at hq
      exact h.apartk i j hij hjn q hq
    · have e : j = kv.length := by simp at hj; omega
      subst e
      rw [List.getElem_append_left hij] at hq
      simp
      exact hka i hij q hq

/-- a numbering, as it lies -/
structure NuO (w : World) (B nb : Nat) (N : List Nd) (P : List Int) (nd pl : Value) (nv kv : List Value) : Prop where
  row : Row w nb #[nd, pl] 174
  nodes : OwnN w B nd N nv kv
  places : w.ownsRow B 3 1 pl P.length (intsV P)
  apart : ∀ q, pl.ownBlock = some q → ∀ j, (hj : j < kv.length) → kv[j].ownBlock ≠ some q
  low : B ≤ nb

/-- what else lies there -/
structure Nk (B nb : Nat) (nd pl : Value) (w : World) (nd' pl' : Value) (w' : World) : Prop where
  low : Below B w w'
  block : ∀ k, k < w.heap.size → k ≠ nb → nd.ownBlock ≠ some k → pl.ownBlock ≠ some k → w'.heap[k]? = w.heap[k]?
  newN : ∀ q, nd'.ownBlock = some q → nd.ownBlock = some q ∨ w.heap.size ≤ q
  newP : ∀ q, pl'.ownBlock = some q → pl.ownBlock = some q ∨ w.heap.size ≤ q

theorem Nk.refl (B nb : Nat) (nd pl : Value) (w : World) : Nk B nb nd pl w nd pl w := ⟨Below.refl _ _, fun _ _ _ _ _ => rfl, fun q h => .inl h, fun q h => .inl h⟩

theorem Nk.trans {B nb : Nat} {nd pl nd1 pl1 nd2 pl2 : Value} {w w1 w2 : World} (h : Nk B nb nd pl w nd1 pl1 w1) (k : Nk B nb nd1 pl1 w1 nd2 pl2 w2) : Nk B nb nd pl w nd2 pl2 w2 := by
  have hz := h.low.size
  refine ⟨h.low.trans k.low, fun q h1 h2 h3 h4 => ?_, fun q hq => ?_, fun q hq => ?_⟩
  · refine (k.block q (Nat.lt_of_lt_of_le h1 hz) h2 (fun e => ?_) (fun e => ?_)).trans (h.block q h1 h2 h3 h4)
    · rcases h.newN q e with e | e
      · exact h3 e
      · omega
    · rcases h.newP q e with e | e
      · exact h4 e
      · omega
  · rcases k.newN q hq with e | e
    · exact h.newN q e
    · exact .inr (by omega)
  · rcases k.newP q hq with e | e
    · exact h.newP q e
    · exact .inr (by omega)

theorem Nk.of_all {B nb : Nat} {nd pl : Value} {w w' : World} (h : Below w.heap.size w w') (hB : B ≤ w.heap.size) : Nk B nb nd pl w nd pl w' :=
  ⟨h.mono hB, fun k h1 _ _ _ => h.block k h1, fun q hq => .inl hq, fun q hq => .inl hq⟩

theorem NuO.below {w w' : World} {B nb : Nat} {N : List Nd} {P : List Int} {nd pl : Value} {nv kv : List Value} (h : NuO w B nb N P nd pl nv kv) (hb : Below w.heap.size w w') : NuO w' B nb N P nd pl nv kv :=
  ⟨h.row.after hb (Nat.le_refl _), h.nodes.blocks (fun k _ hk => hb.block k hk), owns_blocksN h.places (fun q hq => hb.block q (h.places.lt q hq).2), h.apart, h.low⟩

/-- a row of another type is kept -/
theorem Nk.row {B nb : Nat} {nd pl nd' pl' : Value} {w w' : World} {N : List Nd} {P : List Int} {nv kv : List Value} (h : Nk B nb nd pl w nd' pl' w') (C : NuO w B nb N P nd pl nv kv) {g : Nat} {cs : Array Value} {t : TypeId} (R : Row w g cs t) (h1 : t ≠ 174) (h2 : t ≠ 53) (h3 : t ≠ 3) : Row w' g cs t :=
  ⟨(h.block g R.lt (fun e => by
    have r1 := R.out
    have r2 := C.row.out
    rw [e] at r1
    rw [r1] at r2
    injection r2 with r2
    injection r2 with _ r2
    exact h1 r2) (own_ne_row R C.nodes.own h2) (own_ne_row R C.places h3)).trans R.out⟩

/-- the kids so far -/
structure Kn (B nb g : Nat) (w : World) (nd pl : Value) (N : List Nd) (P : List Int) (nd1 pl1 : Value) (nv kv : List Value) (kw : Value) (ks : List Int) (vs : Array Value) (w2 : World) : Prop where
  C : NuO w2 B nb N P nd1 pl1 nv kv
  K : Nk B nb nd pl w nd1 pl1 w2
  R : Row w2 g vs 88
  O : w2.ownsRow w.heap.size 3 1 kw ks.length (intsV ks)
  ap : ∀ q, kw.ownBlock = some q → pl1.ownBlock ≠ some q ∧ ∀ j, (hj : j < kv.length) → kv[j].ownBlock ≠ some q

/-- behind a kid's numbering -/
theorem Kn.call {B nb g : Nat} {w w2 w3 : World} {nd pl nd1 pl1 nd2 pl2 kw : Value} {N M : List Nd} {P Q : List Int} {nv kv nv' kv' : List Value} {ks : List Int} {vs : Array Value} (h : Kn B nb g w nd pl N P nd1 pl1 nv kv kw ks vs w2) (C3 : NuO w3 B nb (N ++ M) (P ++ Q) nd2 pl2 (nv ++ nv') (kv ++ kv')) (K3 : Nk B nb nd1 pl1 w2 nd2 pl2 w3) (hkv : ∀ j, (hj : j < kv'.length) → ∀ q, kv'[j].ownBlock = some q → w2.heap.size ≤ q) :
    Kn B nb g w nd pl (N ++ M) (P ++ Q) nd2 pl2 (nv ++ nv') (kv ++ kv') kw ks vs w3 := by
  have hz := h.K.low.size
  have hO : w3.ownsRow w.heap.size 3 1 kw ks.length (intsV ks) := owns_blocksN h.O (fun q hq => K3.block q (h.O.lt q hq).2 (fun e => own_ne_row h.C.row h.O (by decide) (by rw [hq, e])) (fun e => own_ne_ownN h.O h.C.nodes.own (by decide) q hq e) (h.ap q hq).1)
  refine ⟨C3, h.K.trans K3, K3.row h.C h.R (by decide) (by decide) (by decide), hO, fun q hq => ⟨fun e => ?_, fun j hj e => ?_⟩⟩
  · rcases K3.newP q e with e | e
    · exact (h.ap q hq).1 e
    · have := (h.O.lt q hq).2; omega
  · by_cases hjn : j < kv.length
    · rw [List.getElem_append_left hjn] at e
      exact (h.ap q hq).2 j hjn e
    · rw [List.getElem_append_right (by omega)] at e
      have := hkv _ (by simp at hj; omega) q e
      have := (h.O.lt q hq).2
      omega

/-- a kid's place is put behind the others -/
theorem Kn.app {B nb g : Nat} {w w2 w3 : World} {nd pl nd1 pl1 kw : Value} {N : List Nd} {P : List Int} {nv kv : List Value} {ks : List Int} {vs : Array Value} {o : Obj} {a : Int} {gk cap : Nat} (h : Kn B nb g w nd pl N P nd1 pl1 nv kv kw ks vs w2) (hB : B ≤ w.heap.size)
    (O3 : w3.ownsRow w.heap.size 3 1 (.slice (some ⟨gk, 0, none⟩) (ks.length + 1) cap) (ks.length + 1) (intsV ks ++ [.int .i64 a])) (hg : (w2.alloc o).grownBy w3 kw.ownBlock) (hat : kw.ownBlock = some gk ∨ gk = w2.heap.size + 1) :
    Kn B nb g w nd pl N P nd1 pl1 nv kv (.slice (some ⟨gk, 0, none⟩) (ks.length + 1) cap) (ks ++ [a]) vs w3 := by
  have hz := h.K.low.size
  have C0 := (Below.refl w2.heap.size w2).alloc (Nat.le_refl _) o
  have za : (w2.alloc o).heap.size = w2.heap.size + 1 := by simp
  have hk : ∀ q, q < w2.heap.size → kw.ownBlock ≠ some q → w3.heap[q]? = w2.heap[q]? := fun q h1 h2 => (hg.block q (by rw [za]; omega) (fun e => h2 e.symm)).trans (Below.heap_alloc w2 o q h1)
  have C := h.C
  have n1 : kw.ownBlock ≠ some nb := own_ne_row C.row h.O (by decide)
  refine ⟨⟨⟨(hk nb C.row.lt n1).trans C.row.out⟩, ?_, ?_, C.apart, C.low⟩, ⟨?_, fun q h1 h2 h3 h4 => ?_, h.K.newN, h.K.newP⟩, ⟨(hk g h.R.lt (own_ne_row h.R h.O (by decide))).trans h.R.out⟩, by rw [List.length_append]; simpa [intsV] using O3, fun q hq => ?_⟩
  · exact C.nodes.upto (fun q hq => hk q (C.nodes.lts.1 q hq).2 (fun e => own_ne_ownN h.O C.nodes.own (by decide) q e hq)) (fun j hj q hq => hk q (C.nodes.lts.2.1 j hj q hq).2 (fun e => own_ne_ownN h.O (C.nodes.names j (by rw [← C.nodes.len]; exact hj) hj) (by decide) q e hq)) (fun j hj q hq => hk q (C.nodes.lts.2.2 j hj q hq).2 (fun e => (h.ap q e).2 j hj hq))
  · exact owns_blocksN C.places (fun q hq => hk q (C.places.lt q hq).2 (fun e => (h.ap q e).1 hq))
  · exact (h.K.low.alloc (Nat.le_trans hB hz) o).grown hg (by rw [za]; omega) (fun q hq => by have := (h.O.lt q hq).1; omega)
  · have hw2 := Nat.lt_of_lt_of_le h1 hz
    refine (hk q hw2 (fun e => by have := (h.O.lt q e).1; omega)).trans (h.K.block q h1 h2 h3 h4)
  · have e : gk = q := by simpa [Value.ownBlock] using hq
    subst e
    rcases hat with e | e
    · exact h.ap gk e
    · refine ⟨fun e' => ?_, fun j hj e' => ?_⟩
      · have := (C.places.lt gk e').2; omega
      · have := (C.nodes.lts.2.2 j hj gk e').2; omega

end Go.Proofs.YtddpcehgopeklaaGreatDoor

namespace Go.Proofs.YtddpcehgopeklaaGreatDoor
open Go.RowKit
set_option linter.unusedVariables false

theorem Kn.below {B nb g : Nat} {w w2 w3 : World} {nd pl nd1 pl1 kw : Value} {N : List Nd} {P : List Int} {nv kv : List Value} {ks : List Int} {vs : Array Value} (h : Kn B nb g w nd pl N P nd1 pl1 nv kv kw ks vs w2) (hb : Below w2.heap.size w2 w3) (hB : B ≤ w2.heap.size) : Kn B nb g w nd pl N P nd1 pl1 nv kv kw ks vs w3 :=
  ⟨h.C.below hb, h.K.trans (Nk.of_all hb hB), h.R.after hb (Nat.le_refl _), owns_blocksN h.O (fun q hq => hb.block q (h.O.lt q hq).2), h.ap⟩

theorem grow_keep {W w7 : World} {o : Obj} {row : Option Nat} (hg : (W.alloc o).grownBy w7 row) : ∀ q, q < W.heap.size → row ≠ some q → w7.heap[q]? = W.heap[q]? := fun q h1 h2 => (hg.block q (by simp; omega) (fun e => h2 e.symm)).trans (Below.heap_alloc W o q h1)

theorem NuO.pushN {W w7 : World} {B nb g7 c7 : Nat} {N : List Nd} {P : List Int} {nd pl u k : Value} {nv kv : List Value} {x : Nd} (C : NuO W B nb N P nd pl nv kv) (o : Obj) (hB : B ≤ W.heap.size) (hu : W.ownsRow B 9 1 u x.names.length (x.names.map Value.string)) (hk : W.ownsRow B 3 1 k x.kids.length (intsV x.kids))
    (hua : ∀ j, (hj : j < nv.length) → ∀ q, nv[j].ownBlock = some q → u.ownBlock ≠ some q) (hka : ∀ j, (hj : j < kv.length) → ∀ q, kv[j].ownBlock = some q → k.ownBlock ≠ some q) (hpk : ∀ q, k.ownBlock = some q → pl.ownBlock ≠ some q)
    (hg : (W.alloc o).grownBy w7 nd.ownBlock) (O7 : w7.ownsRow B 53 5 (.slice (some ⟨g7, 0, none⟩) (N.length + 1) c7) (N.length + 1) (ndC N nv kv ++ nd5 x u k)) (hat : nd.ownBlock = some g7 ∨ g7 = W.heap.size + 1) :
    NuO (w7.setCell ⟨nb, 0, none⟩ (.slice (some ⟨g7, 0, none⟩) (N.length + 1) c7)) B nb (N ++ [x]) P (.slice (some ⟨g7, 0, none⟩) (N.length + 1) c7) pl (nv ++ [u]) (kv ++ [k]) ∧ Nk B nb nd pl W (.slice (some ⟨g7, 0, none⟩) (N.length + 1) c7) pl (w7.setCell ⟨nb, 0, none⟩ (.slice (some ⟨g7, 0, none⟩) (N.length + 1) c7)) := by
  have C0 := (Below.refl W.heap.size W).alloc (Nat.le_refl _) o
  have C1 := C.below C0
  have hu1 := owns_blocksN (w' := W.alloc o) hu (fun q hq => C0.block q (hu.lt q hq).2)
  have hk1 := owns_blocksN (w' := W.alloc o) hk (fun q hq => C0.block q (hk.lt q hq).2)
  have n1 : nd.ownBlock ≠ some nb := own_ne_row C.row C.nodes.own (by decide)
  have R7 : Row w7 nb #[nd, pl] 174 := ⟨(grow_keep hg nb C.row.lt n1).trans C.row.out⟩
  have N7 := C1.nodes.snoc hu1 hk1 hua hka O7 hg
  have P7 : w7.ownsRow B 3 1 pl P.length (intsV P) := owns_blocksN C.places (fun q hq => grow_keep hg q (C.places.lt q hq).2 (fun e => own_ne_ownN C.places C.nodes.own (by decide) q hq e))
  have sc : ∀ q, q ≠ nb → (w7.setCell ⟨nb, 0, none⟩ (.slice (some ⟨g7, 0, none⟩) (N.length + 1) c7)).heap[q]? = w7.heap[q]? := fun q hq => heap_setCell_other w7 ⟨nb, 0, none⟩ q _ hq
  refine ⟨⟨R7.set 0 _, N7.upto (fun q hq => sc q (fun e => own_ne_row R7 N7.own (by decide) (by rw [hq, e]))) (fun j hj q hq => sc q (fun e => own_ne_row R7 (N7.names j (by rw [← N7.len]; exact hj) hj) (by decide) (by rw [hq, e]))) (fun j hj q hq => sc q (fun e => own_ne_row R7 (N7.kids j (by rw [← N7.lenk]; exact hj) hj) (by decide) (by rw [hq, e]))), owns_blocksN P7 (fun q hq => sc q (fun e => own_ne_row R7 P7 (by decide) (by rw [hq, e]))), fun q hq j hj e => ?_, C.low⟩, ⟨?_, fun q h1 h2 h3 h4 => (sc q h2).trans (grow_keep hg q h1 h3), fun q hq => ?_, fun q hq => .inl hq⟩⟩
  · by_cases hjn : j < kv.length
    · rw [List.getElem_append_left hjn] at e
      exact C.apart q hq j hjn e
    · have ej : j = kv.length := by simp at hj; omega
      subst ej
      simp at e
      exact hpk q e hq
  · exact ((C0.mono hB).grown hg (by simp; omega) (fun q hq => (C.nodes.lts.1 q hq).1)).setCell (p := ⟨nb, 0, none⟩) C.low _
  · have e : g7 = q := by simpa [Value.ownBlock] using hq
    subst e
    exact hat.imp id (fun e => by omega)

theorem NuO.pushP {W w7 : World} {B nb g7 c7 : Nat} {N : List Nd} {P : List Int} {nd pl : Value} {nv kv : List Value} (C : NuO W B nb N P nd pl nv kv) (o : Obj) (a : Int) (hB : B ≤ W.heap.size)
    (hg : (W.alloc o).grownBy w7 pl.ownBlock) (O7 : w7.ownsRow B 3 1 (.slice (some ⟨g7, 0, none⟩) (P.length + 1) c7) (P.length + 1) (intsV P ++ [.int .i64 a])) (hat : pl.ownBlock = some g7 ∨ g7 = W.heap.size + 1) :
    NuO (w7.setCell ⟨nb, 1, none⟩ (.slice (some ⟨g7, 0, none⟩) (P.length + 1) c7)) B nb N (P ++ [a]) nd (.slice (some ⟨g7, 0, none⟩) (P.length + 1) c7) nv kv ∧ Nk B nb nd pl W nd (.slice (some ⟨g7, 0, none⟩) (P.length + 1) c7) (w7.setCell ⟨nb, 1, none⟩ (.slice (some ⟨g7, 0, none⟩) (P.length + 1) c7)) := by
  have C0 := (Below.refl W.heap.size W).alloc (Nat.le_refl _) o
  have n1 : pl.ownBlock ≠ some nb := own_ne_row C.row C.places (by decide)
  have R7 : Row w7 nb #[nd, pl] 174 := ⟨(grow_keep hg nb C.row.lt n1).trans C.row.out⟩
  have sc : ∀ q, q ≠ nb → (w7.setCell ⟨nb, 1, none⟩ (.slice (some ⟨g7, 0, none⟩) (P.length + 1) c7)).heap[q]? = w7.heap[q]? := fun q hq => heap_setCell_other w7 ⟨nb, 1, none⟩ q _ hq
  have N7 : OwnN w7 B nd N nv kv := C.nodes.upto (fun q hq => grow_keep hg q (C.nodes.lts.1 q hq).2 (fun e => own_ne_ownN C.places C.nodes.own (by decide) q e hq)) (fun j hj q hq => grow_keep hg q (C.nodes.lts.2.1 j hj q hq).2 (fun e => own_ne_ownN C.places (C.nodes.names j (by rw [← C.nodes.len]; exact hj) hj) (by decide) q e hq)) (fun j hj q hq => grow_keep hg q (C.nodes.lts.2.2 j hj q hq).2 (fun e => C.apart q e j hj hq))
  refine ⟨⟨R7.set 1 _, N7.upto (fun q hq => sc q (fun e => own_ne_row R7 N7.own (by decide) (by rw [hq, e]))) (fun j hj q hq => sc q (fun e => own_ne_row R7 (N7.names j (by rw [← N7.len]; exact hj) hj) (by decide) (by rw [hq, e]))) (fun j hj q hq => sc q (fun e => own_ne_row R7 (N7.kids j (by rw [← N7.lenk]; exact hj) hj) (by decide) (by rw [hq, e]))), ?_, fun q hq j hj e => ?_, C.low⟩, ⟨?_, fun q h1 h2 h3 h4 => (sc q h2).trans (grow_keep hg q h1 h4), fun q hq => .inl hq, fun q hq => ?_⟩⟩
  · have := owns_blocksN (w' := w7.setCell ⟨nb, 1, none⟩ (.slice (some ⟨g7, 0, none⟩) (P.length + 1) c7)) O7 (fun q hq => sc q (fun e => own_ne_row R7 O7 (by decide) (by rw [hq, e])))
    simpa [intsV] using this
  · have eg : g7 = q := by simpa [Value.ownBlock] using hq
    subst eg
    rcases hat with h1 | h1
    · exact C.apart g7 h1 j hj e
    · have := (C.nodes.lts.2.2 j hj g7 e).2; omega
  · exact ((C0.mono hB).grown hg (by simp; omega) (fun q hq => (C.places.lt q hq).1)).setCell (p := ⟨nb, 1, none⟩) C.low _
  · have e : g7 = q := by simpa [Value.ownBlock] using hq
    subst e
    exact hat.imp id (fun e => by omega)

end Go.Proofs.YtddpcehgopeklaaGreatDoor

namespace Go.Proofs.YtddpcehgopeklaaGreatDoor
open Go.RowKit
set_option linter.unusedVariables false

/-- a tree's nodes, the first at a place -/
def flE : Ex → Nat → List Nd
  | .un i op k, b => flE k b ++ [⟨op, 0, ⟨#[]⟩, [], [((b + k.cnt - 1 : Nat) : Int)]⟩]
  | .bin i op l r, b => flE l b ++ flE r (b + l.cnt) ++ [⟨op, 0, ⟨#[]⟩, [], [((b + l.cnt - 1 : Nat) : Int), ((b + l.cnt + r.cnt - 1 : Nat) : Int)]⟩]
  | .ite i c t e, b => flE c b ++ flE t (b + c.cnt) ++ flE e (b + c.cnt + t.cnt) ++ [⟨27, 0, ⟨#[]⟩, [], [((b + c.cnt - 1 : Nat) : Int), ((b + c.cnt + t.cnt - 1 : Nat) : Int), ((b + c.cnt + t.cnt + e.cnt - 1 : Nat) : Int)]⟩]
  | e, _ => [exN e]

/-- their places -/
def plE : Ex → List Int
  | .int i _ => [i] | .text i _ => [i] | .bool i _ => [i] | .set i .. => [i] | .name i _ => [i] | .attr i _ => [i] | .lett i _ => [i]
  | .un i _ k => plE k ++ [i]
  | .bin i _ l r => plE l ++ plE r ++ [i]
  | .ite i c t e => plE c ++ plE t ++ plE e ++ [i]

theorem infoND : (Tryz.prog.info? 53).map (fun i => (i.zero, i.size, i.bytes)) = some (some (.agg #[.int .i64 0, .int .i64 0, .string ByteArray.empty, .slice none 0 0, .slice none 0 0]), 5, 80) := by kernel_rfl

theorem infoIN : (Tryz.prog.info? 3).map (fun i => (i.zero, i.size, i.bytes)) = some (some (.int .i64 0), 1, 8) := by kernel_rfl

theorem drewB (w : World) : Below w.heap.size w w.drew := ⟨rfl, rfl, rfl, Nat.le_refl _, fun _ _ => rfl⟩

/-- what is said of a tree that is added -/
def AdO (B nb : Nat) (N : List Nd) (P : List Int) (nd pl : Value) (nv kv : List Value) (M : List Nd) (Q : List Int) (w : World) (r : Ending) (w' : World) : Prop :=
  r = .returned (.int .i64 ((N.length + M.length - 1 : Nat) : Int)) ∧ ∃ nd' pl' nv' kv', NuO w' B nb (N ++ M) (P ++ Q) nd' pl' (nv ++ nv') (kv ++ kv') ∧ Nk B nb nd pl w nd' pl' w' ∧ ∀ j, (hj : j < kv'.length) → ∀ q, kv'[j].ownBlock = some q → w.heap.size ≤ q

def AdV (B nb : Nat) (w0 : World) (v : Value) (fl : Nat → List Nd) (Q : List Int) (n : Nat) : Prop :=
  ∀ (N : List Nd) (P : List Int) (nd pl : Value) (nv kv : List Value) (w : World), Below B w0 w → NuO w B nb N P nd pl nv kv → N.length + n ≤ 65535 → P.length + n ≤ 65535 → Calls Tryz.prog 96 #[.pointer (some ⟨nb, 0, none⟩), v] w (AdO B nb N P nd pl nv kv (fl N.length) Q w)

set_option maxHeartbeats 1600000 in
set_option maxRecDepth 100000 in
theorem add_leaf (B nb : Nat) (w0 : World) (T : TypeId) (v : Value) (i : Int) (x : Nd) (hx : x.kids = [])
    (hk : ∀ w, (method 357 T v "loop.example/s01308/impl.kids").run Tryz.prog w = .ok (143, .int .i64 i) w)
    (hp : ∀ w, (method 357 T v "loop.example/s01308/impl.place").run Tryz.prog w = .ok (144, .int .i64 i) w)
    (HA : Hid (∀ w, Below B w0 w → Calls Tryz.prog 114 #[.iface T v] w (NdA x w))) :
    AdV B nb w0 (.iface T v) (fun _ => [x]) [i] 1 := by
  intro N P nd pl nv kv w hw hC hn hpn
  have Hw := hide hw
  have hcb := hC.row.lt
  have hBw : B ≤ w.heap.size := by have := hC.low; omega
  clear hw
  go_enter Tryz.func96, Tryz.ntmps96
  go_wp2_with fail
  refine (kids_leaf i _).mono ?_
  rintro r w1 ⟨rfl, hw1⟩
  rw [hw1]
  clear hw1
  dsimp only
  go_wp2_with fail
  refine wp_loop_rounds 1 ?_
  rw [rounds_succ]
  go_wp2_with fail
  have K1 := Nk.refl B nb nd pl w
  have OK : w.ownsRow w.heap.size 3 1 (.slice none 0 0) 0 (intsV []) := World.ownsRow_nil _ _ _ _
  have AP : ∀ q, (Value.slice none 0 0).ownBlock = some q → pl.ownBlock ≠ some q ∧ ∀ j, (hj : j < kv.length) → kv[j].ownBlock ≠ some q := fun q hq => by cases hq
  have HwT := Hw
  have hBW := hBw
  obtain ⟨ti, hti, hz0, hz1, hzb⟩ := info_parts infoND
  obtain ⟨tj, htj, hy0, hy1, hyb⟩ := info_parts infoIN
  have hfn := Tryz.func144
  have hnm : (Tryz.f144.name == "runtime.NumGoroutine") = false := by kernel_rfl
  have hbd : Tryz.f144.body.isNone = false := by kernel_rfl
  have HP := hide (fun w => (place_leaf i w).mono (R' := fun r w' => r = .returned (.int .i64 i) ∧ Below w.heap.size w w') (fun r w' ⟨h1, h2⟩ => ⟨h1, by rw [h2]; exact Below.refl _ _⟩))
  have hfu : Tryz.prog.types.size + Made.depth = 357 := by kernel_rfl
  refine (unhide HA _ (unhide HwT)).mono ?_
  rintro r w2 ⟨⟨u, cu, rfl, OU⟩, hb2⟩
  have C2 := hC.below hb2
  have K2 := K1.trans (Nk.of_all hb2 hBW)
  have OK2 := owns_blocksN (w' := w2) OK (fun q hq => hb2.block q (OK.lt q hq).2)
  have hz2 := hb2.size
  have A3 := (Below.refl w2.heap.size w2).alloc (Nat.le_refl _) (.cells #[.int .i64 x.op, .int .i64 x.num, .string x.text, .slice u x.names.length cu, .slice none 0 0] 53)
  have RV := Row.new w2 #[.int .i64 x.op, .int .i64 x.num, .string x.text, .slice u x.names.length cu, .slice none 0 0] 53
  have C3 := C2.below A3
  have K3 := K2.trans (Nk.of_all A3 (Nat.le_trans hBW hz2))
  have OU3 := owns_blocksN (w' := w2.alloc (.cells #[.int .i64 x.op, .int .i64 x.num, .string x.text, .slice u x.names.length cu, .slice none 0 0] 53)) OU (fun q hq => A3.block q (OU.lt q hq).2)
  have OK3 := owns_blocksN (w' := w2.alloc (.cells #[.int .i64 x.op, .int .i64 x.num, .string x.text, .slice u x.names.length cu, .slice none 0 0] 53)) OK2 (fun q hq => A3.block q (OK2.lt q hq).2)
  have hz3 : w2.heap.size < (w2.alloc (.cells #[.int .i64 x.op, .int .i64 x.num, .string x.text, .slice u x.names.length cu, .slice none 0 0] 53)).heap.size := by simp
  have HUA := hide (show ∀ j, (hj : j < (nv).length) → ∀ q, (nv)[j].ownBlock = some q → (Value.slice u x.names.length cu).ownBlock ≠ some q from fun j hj q hq e => by have := (OU.lt q e).1; have := (hC.nodes.lts.2.1 j hj q hq).2; omega)
  clear OU OK2 C2 K2 hb2 A3
  dsimp only
  go_wp2_with fail
  generalize w2.alloc (.cells #[.int .i64 x.op, .int .i64 x.num, .string x.text, .slice u x.names.length cu, .slice none 0 0] 53) = w3 at C3 K3 OU3 OK3 RV hz3 ⊢
  generalize w2.heap.size = vb at RV ⊢
  obtain ⟨xn, cn, hnd, _⟩ := owns_form2 C3.nodes.own
  have HND := hide hnd
  clear hnd
  apply cutC
  · intro HBX
    have hnd := unhide HND
    obtain ⟨e0, e1, e2, e3, e4⟩ := row5N RV
    have u0 : w3.cell? ⟨nb, 0, none⟩ = some (nd) := C3.row.cell 0
    rw [hnd] at u0
    have uf := C3.row.frozen 0
    have NW := World.news_of_block (heap_alloc_new w3 (.cells #[.int .i64 x.op, .int .i64 x.num, .string x.text, .slice u x.names.length cu, .slice none 0 0] 53))
    have d0 : w3.drew.cell? ⟨nb, 0, none⟩ = some (.slice xn (N).length cn) ∧ w3.drew.frozen? ⟨nb, 0, none⟩ = false := ⟨u0, uf⟩
    have d1 : w3.drew.cell? ⟨vb, 0, none⟩ = some (.int .i64 x.op) := e0
    have d2 : w3.drew.cell? ⟨vb, 1, none⟩ = some (.int .i64 x.num) := e1
    have d3 : w3.drew.cell? ⟨vb, 2, none⟩ = some (.string x.text) := e2
    have d4 : w3.drew.cell? ⟨vb, 3, none⟩ = some (.slice u x.names.length cu) := e3
    have d5 : w3.drew.cell? ⟨vb, 4, none⟩ = some (.slice none 0 0) := e4
    have ow : (w3.alloc (.cells #[.int .i64 x.op, .int .i64 x.num, .string x.text, .slice u x.names.length cu, .slice none 0 0] 53)).drew.ownsRow B 53 5 (.slice xn (N).length cn) (N).length (ndC (N) (nv) (kv)) := by
      have := C3.nodes.own
      rw [hnd] at this
      exact (World.ownsRow.alloc this _).drew
    have RCd : Row (w3.alloc (.cells #[.int .i64 x.op, .int .i64 x.num, .string x.text, .slice u x.names.length cu, .slice none 0 0] 53)).drew nb #[nd, pl] 174 := ⟨(C3.row.alloc (.cells #[.int .i64 x.op, .int .i64 x.num, .string x.text, .slice u x.names.length cu, .slice none 0 0] 53)).out⟩
    have dd : (w3.alloc (.cells #[.int .i64 x.op, .int .i64 x.num, .string x.text, .slice u x.names.length cu, .slice none 0 0] 53)).drew.cell? ⟨nb, 0, none⟩ = some (.slice xn (N).length cn) := by
      have := RCd.cell 0
      rw [hnd] at this
      exact this
    have hne : (Value.slice xn (N).length cn).ownBlock ≠ some nb := by rw [← hnd]; exact own_ne_row C3.row C3.nodes.own (by decide)
    have hBz : B ≤ w3.heap.size := by have := C3.row.lt; have := C3.low; omega
    clear e0 e1 e2 e3 e4 u0 uf hnd
    go_region_law (refine step_append_lies _ rfl _ _ 27 rfl B 53 ti (.agg #[.int .i64 0, .int .i64 0, .string ByteArray.empty, .slice none 0 0, .slice none 0 0]) 5 80 Tryz.underlying27 hti hz0 hz1 hzb rfl (by decide) (.slice xn (N).length cn) (N).length (ndC (N) (nv) (kv)) rfl ow ⟨w3.heap.size, 0, none⟩ 1 1 [.int .i64 x.op, .int .i64 x.num, .string x.text, .slice u x.names.length cu, .slice none 0 0] rfl rfl NW (by intro u hu; simp at hu; rcases hu with rfl | rfl | rfl | rfl | rfl <;> rfl) (by decide) (by unfold maxLen; omega) (by omega) (by simp; omega) _ rfl ?_; intro g7 c7 w7 O7 hgrow hat hlt; have R7 : Row w7 nb #[nd, pl] 174 := ⟨(hgrow.block nb RCd.lt (fun e => hne e.symm)).trans RCd.out⟩; have t0 := R7.cell 0; have tf := R7.frozen 0)
    all_goals
      have hg2 : (w3.alloc (.cells #[.int .i64 x.op, .int .i64 x.num, .string x.text, .slice u x.names.length cu, .slice none 0 0] 53)).grownBy w7 (nd).ownBlock := by rw [unhide HND]; exact ⟨hgrow.os, hgrow.tape, hgrow.output, hgrow.size, hgrow.block⟩
      obtain ⟨C7, K7⟩ := C3.pushN (g7 := g7) (c7 := c7) (x := x) (u := .slice u x.names.length cu) (k := .slice none 0 0) _ hBz (own_lowC OU3 (by omega)) (by rw [hx]; exact own_lowC OK3 (by omega)) (unhide HUA) (fun j hj q hq e => (AP q e).2 j hj hq) (fun q hq => (AP q hq).1) hg2 O7 (by rw [unhide HND]; exact hat.imp id (fun e => by rw [e]; show (w3.alloc _).heap.size = _; simp))
      have K8 := K3.trans K7
      have KV8 := hide (show ∀ q, (.slice none 0 0 : Value).ownBlock = some q → w.heap.size ≤ q from fun q hq => (OK3.lt q hq).1)
      clear O7 hgrow hat hlt R7 RCd dd d0 d1 d2 d3 d4 d5 NW ow hg2 K7
      clear t0 tf
      generalize w7.setCell ⟨nb, 0, none⟩ (.slice (some ⟨g7, 0, none⟩) ((N).length + 1) c7) = w8 at C7 K8 ⊢
      clear hne
      revert KV8
      revert K8
      revert C7
      revert w8
      revert c7
      revert g7
      exact HBX.out
  intro g7 c7 w8 C7 K8 KV8
  clear RV C3 K3 OU3 OK3
  go_wp2_with fail
  obtain ⟨xp, cp, hpl, _⟩ := owns_form2 C7.places
  have HPL := hide hpl
  have C8 := C7.below (drewB w8)
  have K9 := K8.trans (Nk.of_all (drewB w8) (Nat.le_trans hBw K8.low.size))
  have s1 : w8.drew.cell? ⟨nb, 1, none⟩ = some (.slice xp (P).length cp) := by have := C8.row.cell 1; rw [hpl] at this; exact this
  have s2 := C8.row.frozen 1
  have hne2 : (Value.slice xp (P).length cp).ownBlock ≠ some nb := by rw [← hpl]; exact own_ne_row C8.row C8.places (by decide)
  have HC := hide (unhide HP w8.drew)
  have hBz8 : B ≤ w8.drew.heap.size := by have := C8.row.lt; have := C8.low; omega
  clear hpl C7 K8
  go_region_law (first
    | (refine step_invR rfl _ _ _ rfl T (v) rfl _ hfu _ _ hp _ hfn hnm hbd (fun v' w' => v' = .int .i64 i ∧ Below w8.heap.size w8.drew w') ((unhide HC).mono (fun r w' h => ⟨_, h.1, rfl, h.2⟩)) ?_; rintro v9 w9 ⟨rfl, hb9⟩; have C9 := C8.below hb9; have K10 := K9.trans (Nk.of_all hb9 hBz8); have hBz9 : B ≤ w9.heap.size := Nat.le_trans hBz8 hb9.size; have s3 : w9.cell? ⟨nb, 1, none⟩ = some (.slice xp (P).length cp) := (by have := C9.row.cell 1; rw [unhide HPL] at this; exact this); have s4 := C9.row.frozen 1; have ow9 : (w9.alloc (.cells #[.int .i64 i] 3)).ownsRow B 3 1 (.slice xp (P).length cp) (P).length (intsV (P)) := (by have := C9.places; rw [unhide HPL] at this; exact World.ownsRow.alloc this _); have s5 : (w9.alloc (.cells #[.int .i64 i] 3)).cell? ⟨nb, 1, none⟩ = some (.slice xp (P).length cp) := (by have := (C9.row.alloc (.cells #[.int .i64 i] 3)).cell 1; rw [unhide HPL] at this; exact this); have NW9 := World.news_of_block (heap_alloc_new w9 (.cells #[.int .i64 i] 3)); have RC9 : Row (w9.alloc (.cells #[.int .i64 i] 3)) nb #[_, _] 174 := C9.row.alloc (.cells #[.int .i64 i] 3))
    | (refine step_append_lies _ rfl _ _ 29 rfl B 3 tj (.int .i64 0) 1 8 Tryz.underlying29 htj hy0 hy1 hyb rfl (by decide) (.slice xp (P).length cp) (P).length (intsV (P)) rfl ow9 ⟨w9.heap.size, 0, none⟩ 1 1 [.int .i64 i] rfl rfl NW9 (by intro u hu; simp at hu; rcases hu with rfl; rfl) (by decide) (by unfold maxLen; omega) (by omega) (by simp; omega) _ rfl ?_; intro g6 c6 w6 O6 hgrow6 hat6 hlt6; have R6 : Row w6 nb #[_, _] 174 := ⟨(hgrow6.block nb RC9.lt (fun e => hne2 e.symm)).trans RC9.out⟩; have t0 := R6.cell 1; have tf := R6.frozen 1))
  all_goals
    have hg3 : (w9.alloc (.cells #[.int .i64 i] 3)).grownBy w6 (pl).ownBlock := by rw [unhide HPL]; exact hgrow6
    obtain ⟨C6, K6⟩ := C9.pushP (g7 := g6) (c7 := c6) _ i hBz9 hg3 O6 (by rw [unhide HPL]; exact hat6.imp id (fun e => by rw [e]; simp))
    have K7 := K10.trans K6
    clear O6 hgrow6 hat6 hlt6 hg3 s1 s2 s3 s4 s5 t0 tf R6 RC9 NW9 ow9 C8 C9 K9 K10 K6
    generalize w6.setCell ⟨nb, 1, none⟩ (.slice (some ⟨g6, 0, none⟩) ((P).length + 1) c6) = w5 at C6 K7 ⊢
    have t0 : w5.cell? ⟨nb, 0, none⟩ = some (.slice (some ⟨g7, 0, none⟩) ((N).length + 1) c7) := C6.row.cell 0
    go_wp2_with fail
    go_ret
    refine ⟨by simp, _, _, [_], [_], C6, K7, ?_⟩
    intro j hj q hq
    have hj0 : j = 0 := by simp at hj; exact hj
    subst hj0
    exact unhide KV8 q hq

end Go.Proofs.YtddpcehgopeklaaGreatDoor

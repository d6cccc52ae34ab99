/-
  ONA, ONB. Own work.
-/
import Derived.Test.YtcehablmloleaaaGreatDoorMXAE
import Derived.Test.YtcehablmloleaaaGreatDoorMXAG
import Derived.Test.YtcehablmloleaaaGreatDoorMXAD
import Derived.Test.YtcehablmloleaaaGreatDoorMXAB
namespace Go.Proofs.YtcehablmloleaaaGreatDoor
open Go.RowKit
set_option linter.unusedVariables false

/-- marks of numbers -/
def marksZ (k n : Nat) : List Int := (List.range n).map fun j => ((k + j : Nat) : Int)

theorem marksZ_len (k n : Nat) : (marksZ k n).length = n := by simp [marksZ]
theorem marksZ_at (k n j : Nat) (h : j < (marksZ k n).length) : (marksZ k n)[j] = ((k + j : Nat) : Int) := by simp [marksZ]

def mixZ (L : List Int) (k j : Nat) : List Int := marksZ k j ++ L.drop j

theorem mixZ_zero (L : List Int) (k : Nat) : mixZ L k 0 = L := by simp [mixZ, marksZ]
theorem mixZ_full (L : List Int) (k : Nat) : mixZ L k L.length = marksZ k L.length := by simp [mixZ]
theorem mixZ_len (L : List Int) (k j : Nat) (h : j ≤ L.length) : (mixZ L k j).length = L.length := by
  rw [mixZ, List.length_append, marksZ_len, List.length_drop]; omega
theorem mixZ_set (L : List Int) (k j : Nat) (h : j < L.length) : (mixZ L k j).set j ((k + j : Nat) : Int) = mixZ L k (j + 1) := by
  rw [mixZ, List.drop_eq_getElem_cons h, List.set_append_right _ _ (by rw [marksZ_len]; exact Nat.le_refl _), marksZ_len, Nat.sub_self, List.set_cons_zero, mixZ]
  have : marksZ k (j + 1) = marksZ k j ++ [((k + j : Nat) : Int)] := by simp [marksZ, List.range_succ]
  rw [this, List.append_assoc]
  rfl

set_option maxRecDepth 100000 in
set_option maxHeartbeats 1600000 in
theorem markIntS_own (lo hi : Nat) (a : Option Addr) (n c : Nat) (L : List Int) (x : Int) (w : World) (h : w.ownsRow lo 3 1 (.slice a n c) n (intsV L)) (hin : ∀ q, (Value.slice a n c).ownBlock = some q → q < hi) (hl : L.length = n) (hx : 0 ≤ x) (hk : x + n ≤ 35184372088832) :
    Calls Tryz.prog 10 #[.slice a n c, .int .i64 x] w fun e w' => e = .returned (.int .i64 (x + n)) ∧ w'.ownsRow lo 3 1 (.slice a n c) n (intsV (marksZ x.toNat n)) ∧ Touch lo hi w w' := by
  obtain ⟨k, rfl⟩ := Int.eq_ofNat_of_zero_le hx
  rw [Int.toNat_natCast]
  have Hl := hide hl
  clear hl
  go_enter Tryz.func10, Tryz.ntmps10
  go_wp2
  go_loopw [1, 5] (fun q i wr => ∃ (j : Nat) (z : Int), j ≤ n ∧ i = .int .i64 j ∧ q = .int .i64 z ∧ z = ((k + j : Nat) : Int) ∧ wr.ownsRow lo 3 1 (.slice a n c) n (intsV (mixZ L k j)) ∧ Touch lo hi w wr) (fun _ i _ => n - (intOf i).toNat)
  case atStart => exact ⟨0, k, Nat.zero_le _, rfl, rfl, by simp, by rw [mixZ_zero]; exact h, Touch.refl _ _ _⟩
  case round =>
    obtain ⟨j, z, hj, rfl, rfl, hz, hown, ht⟩ := hrel
    by_cases hlt : j < n
    · have hjl : j < L.length := by rw [unhide Hl]; exact hlt
      have hlm : (mixZ L k j).length = L.length := mixZ_len L k j (by omega)
      have hjm : j < (mixZ L k j).length := by omega
      have ilt : (j : Int) < (n : Int) := by omega
      have z0 : 0 ≤ z := by omega
      have z1 : z + 1 ≤ 35184372088832 := by omega
      obtain ⟨g, hg⟩ : ∃ g, a = some ⟨g, 0, none⟩ := by
        rcases hown.2 with ⟨_, h0⟩ | ⟨g, cap, cur, hv, _⟩
        · omega
        · simp only [Value.slice.injEq] at hv; exact ⟨g, hv.1⟩
      subst hg
      have hgl := (hown.lt g rfl).1
      have hgh : g < hi := hin g rfl
      have x0 : (intsV (mixZ L k j))[j]? = some (.int .i64 (mixZ L k j)[j]) := by rw [intsV, List.getElem?_map, List.getElem?_eq_getElem hjm]; rfl
      have c0 := (hown.cellAt j (by omega)).trans x0
      have cf := fun i => hown.frozenAt i
      have HO := hide (hown.stored j (.int .i64 z)).1
      have T2 := ht.trans (Touch.setCell (lo := lo) (hi := hi) wr ⟨g, j, none⟩ (.int .i64 z) hgl hgh)
      have Hz := hide hz
      have Hlt := hide hlt
      generalize (mixZ L k j)[j] = y0 at c0
      clear hz hown x0 ht
      go_wp2_with fail
      go_roundw
      case rel =>
        refine ⟨j + 1, z + 1, unhide Hlt, by go_num, by go_num, by have := unhide Hz; omega, ?_, T2⟩
        have hz := unhide Hz
        rw [← mixZ_set L k j hjl, intsV, List.map_set, ← hz]
        exact unhide HO
      case measure => have := unhide Hlt; simp [intOf]; omega
    · have e : j = n := by omega
      subst e
      go_wp2
      go_ret
      have hM : mixZ L k j = marksZ k j := by have := mixZ_full L k; rwa [unhide Hl] at this
      rw [hM] at hown
      exact ⟨by rw [hz]; push_cast; rfl, hown, ht⟩

set_option maxRecDepth 100000 in
set_option maxHeartbeats 1600000 in
theorem heldIntS_any (a : Option Addr) (n c : Nat) (x : Int) (w : World) (h : Ints w a n c (marksZ x.toNat n)) (hx : 0 ≤ x) (hk : x + n ≤ 35184372088832) :
    Calls Tryz.prog 12 #[.slice a n c, .int .i64 x] w fun e w' => e = .returned (.int .i64 (x + n)) ∧ Below w.heap.size w w' := by
  obtain ⟨k, rfl⟩ := Int.eq_ofNat_of_zero_le hx
  rw [Int.toNat_natCast] at h
  have HH := hide h
  have hs := h.small
  clear h
  go_enter Tryz.func12, Tryz.ntmps12
  go_wp2
  go_loopw [1, 5] (fun q i wr => ∃ (j : Nat) (z : Int), j ≤ n ∧ i = .int .i64 j ∧ q = .int .i64 z ∧ z = ((k + j : Nat) : Int) ∧ wr = w) (fun _ i _ => n - (intOf i).toNat)
  case atStart => exact ⟨0, k, Nat.zero_le _, rfl, rfl, by simp, rfl⟩
  case round =>
    obtain ⟨j, z, hj, rfl, rfl, hz, hw⟩ := hrel
    by_cases hlt : j < n
    · have ilt : (j : Int) < (n : Int) := by omega
      have hjm : j < (marksZ k n).length := by rw [marksZ_len]; exact hlt
      have z0 : 0 ≤ z := by omega
      have z1 : z + 1 ≤ 35184372088832 := by omega
      obtain ⟨b, off, rfl, hb, c0⟩ := (unhide HH).cells j hjm
      rw [marksZ_at k n j hjm, ← hz] at c0
      rw [← hw] at c0
      have Hw := hide hw
      have Hz := hide hz
      have Hlt := hide hlt
      clear hz hw hjm
      go_wp2_with fail
      go_roundw
      case rel => exact ⟨j + 1, z + 1, unhide Hlt, by go_num, by go_num, by have := unhide Hz; omega, unhide Hw⟩
      case measure => have := unhide Hlt; simp [intOf]; omega
    · have e : j = n := by omega
      subst e
      have Hw := hide hw
      clear hw
      go_wp2
      go_ret
      exact ⟨by rw [hz]; push_cast; rfl, by rw [unhide Hw]; exact Below.refl _ _⟩

end Go.Proofs.YtcehablmloleaaaGreatDoor

namespace Go.Proofs.YtcehablmloleaaaGreatDoor
open Go.RowKit
set_option linter.unusedVariables false

/-- a node's cells -/
def nd5 (x : Nd) (u k : Value) : List Value := [.int .i64 x.op, .int .i64 x.num, .string x.text, u, k]

def ndC : List Nd → List Value → List Value → List Value
  | x :: N, u :: nv, k :: kv => nd5 x u k ++ ndC N nv kv
  | _, _, _ => []

theorem ndC_len : ∀ (N : List Nd) (nv kv : List Value), nv.length = N.length → kv.length = N.length → (ndC N nv kv).length = N.length * 5
  | [], _, _, _, _ => by simp [ndC]
  | x :: N, [], _, h, _ => by simp at h
  | x :: N, _ :: _, [], _, h => by simp at h
  | x :: N, u :: nv, k :: kv, h, h' => by
    have := ndC_len N nv kv (by simpa using h) (by simpa using h')
    simp only [ndC, nd5, List.length_append, List.length_cons, List.length_nil, this]; omega

theorem ndC_snoc : ∀ (N : List Nd) (nv kv : List Value) (x : Nd) (u k : Value), nv.length = N.length → kv.length = N.length → ndC (N ++ [x]) (nv ++ [u]) (kv ++ [k]) = ndC N nv kv ++ nd5 x u k
  | [], [], [], x, u, k, _, _ => by simp [ndC]
  | [], _ :: _, _, x, u, k, h, _ => by simp at h
  | [], [], _ :: _, x, u, k, _, h => by simp at h
  | y :: N, [], _, x, u, k, h, _ => by simp at h
  | y :: N, _ :: _, [], x, u, k, _, h => by simp at h
  | y :: N, z :: nv, t :: kv, x, u, k, h, h' => by
    have := ndC_snoc N nv kv x u k (by simpa using h) (by simpa using h')
    simp only [List.cons_append, ndC, this, List.append_assoc]

theorem ndC_at : ∀ (N : List Nd) (nv kv : List Value) (j : Nat) (h : j < N.length) (h' : j < nv.length) (h2 : j < kv.length), ∀ r, r < 5 → (ndC N nv kv)[j * 5 + r]? = (nd5 N[j] nv[j] kv[j])[r]?
  | x :: N, u :: nv, k :: kv, 0, _, _, _, r, hr => by
    rw [ndC, Nat.zero_mul, Nat.zero_add, List.getElem?_append_left (by simp [nd5]; omega)]
    rfl
  | x :: N, u :: nv, k :: kv, j + 1, h, h', h2, r, hr => by
    have ih := ndC_at N nv kv j (by simpa using h) (by simpa using h') (by simpa using h2) r hr
    rw [ndC, List.getElem?_append_right (by simp [nd5]; omega)]
    have e : (j + 1) * 5 + r - (nd5 x u k).length = j * 5 + r := by simp [nd5]; omega
    rw [e, ih]
    rfl
  | [], _, _, _, h, _, _, _, _ => absurd h (by simp)
  | _ :: _, [], _, _, _, h, _, _, _ => absurd h (by simp)
  | _ :: _, _ :: _, [], _, _, _, h, _, _ => absurd h (by simp)

theorem ndC_set : ∀ (N : List Nd) (nv kv : List Value) (j : Nat) (h : j < N.length) (hl : nv.length = N.length) (hl' : kv.length = N.length) (y : Nd), ndC (N.set j y) nv kv = (((ndC N nv kv).set (j * 5) (.int .i64 y.op)).set (j * 5 + 1) (.int .i64 y.num)).set (j * 5 + 2) (.string y.text)
  | x :: N, u :: nv, k :: kv, 0, _, _, _, y => by simp [ndC, nd5]
  | x :: N, u :: nv, k :: kv, j + 1, h, hl, hl', y => by
    have ih := ndC_set N nv kv j (by simpa using h) (by simpa using hl) (by simpa using hl') y
    have e : ∀ (A : List Value) i v, (nd5 x u k ++ A).set ((j + 1) * 5 + i) v = nd5 x u k ++ A.set (j * 5 + i) v := fun A i v => by
      rw [List.set_append_right _ _ (by simp [nd5]; omega)]
      congr 2
      simp [nd5]; omega
    simp only [List.set_cons_succ, ndC]
    rw [ih]
    have e0 := e (ndC N nv kv) 0 (.int .i64 y.op)
    simp only [Nat.add_zero] at e0
    rw [e0, e, e]
  | [], _, _, _, h, _, _, _ => absurd h (by simp)
  | _ :: _, [], _, _, _, hl, _, _ => by simp at hl
  | _ :: _, _ :: _, [], _, _, _, hl, _ => by simp at hl

/-- nodes in a row of the call's own, their names and kids in rows of their own -/
structure OwnN (w : World) (lo : Nat) (v : Value) (N : List Nd) (nv kv : List Value) : Prop where
  len : nv.length = N.length
  lenk : kv.length = N.length
  own : w.ownsRow lo 91 5 v N.length (ndC N nv kv)
  names : ∀ j, (h : j < N.length) → (h' : j < nv.length) → w.ownsRow lo 9 1 nv[j] N[j].names.length (N[j].names.map Value.string)
  kids : ∀ j, (h : j < N.length) → (h' : j < kv.length) → w.ownsRow lo 3 1 kv[j] N[j].kids.length (intsV N[j].kids)
  apart : ∀ i j, (hij : i < j) → (h : j < nv.length) → ∀ q, (nv[i]'(by omega)).ownBlock = some q → nv[j].ownBlock ≠ some q
  apartk : ∀ i j, (hij : i < j) → (h : j < kv.length) → ∀ q, (kv[i]'(by omega)).ownBlock = some q → kv[j].ownBlock ≠ some q

theorem OwnN.nil (w : World) (lo : Nat) : OwnN w lo (.slice none 0 0) [] [] [] :=
  ⟨rfl, rfl, World.ownsRow_nil _ _ _ _, fun j h => absurd h (by simp), fun j h => absurd h (by simp), fun i j _ h => absurd h (by simp), fun i j _ h => absurd h (by simp)⟩

theorem owns_blocksN {w w' : World} {base : Nat} {e : TypeId} {size n : Nat} {v : Value} {xs : List Value} (h : w.ownsRow base e size v n xs) (hd : ∀ q, v.ownBlock = some q → w'.heap[q]? = w.heap[q]?) : w'.ownsRow base e size v n xs := by
  refine ⟨h.1, ?_⟩
  rcases h.2 with h2 | ⟨g, cap, cur, hv, hb, hg, h4⟩
  · exact .inl h2
  · exact .inr ⟨g, cap, cur, hv, hb, (hd g (by rw [hv]; rfl)).trans hg, h4⟩

theorem OwnN.lts {w : World} {lo : Nat} {v : Value} {N : List Nd} {nv kv : List Value} (h : OwnN w lo v N nv kv) : (∀ q, v.ownBlock = some q → lo ≤ q ∧ q < w.heap.size) ∧ (∀ j, (hj : j < nv.length) → ∀ q, nv[j].ownBlock = some q → lo ≤ q ∧ q < w.heap.size) ∧ ∀ j, (hj : j < kv.length) → ∀ q, kv[j].ownBlock = some q → lo ≤ q ∧ q < w.heap.size :=
  ⟨h.own.lt, fun j hj => (h.names j (by rw [← h.len]; exact hj) hj).lt, fun j hj => (h.kids j (by rw [← h.lenk]; exact hj) hj).lt⟩

theorem OwnN.upto {w w' : World} {lo : Nat} {v : Value} {N : List Nd} {nv kv : List Value} (h : OwnN w lo v N nv kv) (h1 : ∀ q, v.ownBlock = some q → w'.heap[q]? = w.heap[q]?) (h2 : ∀ j, (hj : j < nv.length) → ∀ q, nv[j].ownBlock = some q → w'.heap[q]? = w.heap[q]?) (h3 : ∀ j, (hj : j < kv.length) → ∀ q, kv[j].ownBlock = some q → w'.heap[q]? = w.heap[q]?) : OwnN w' lo v N nv kv :=
  ⟨h.len, h.lenk, owns_blocksN h.own h1, fun j hj hj' => owns_blocksN (h.names j hj hj') (h2 j hj'), fun j hj hj' => owns_blocksN (h.kids j hj hj') (h3 j hj'), h.apart, h.apartk⟩

theorem OwnN.blocks {w w' : World} {lo : Nat} {v : Value} {N : List Nd} {nv kv : List Value} (h : OwnN w lo v N nv kv) (hd : ∀ k, lo ≤ k → k < w.heap.size → w'.heap[k]? = w.heap[k]?) : OwnN w' lo v N nv kv :=
  h.upto (fun q hq => hd q (h.lts.1 q hq).1 (h.lts.1 q hq).2) (fun j hj q hq => hd q (h.lts.2.1 j hj q hq).1 (h.lts.2.1 j hj q hq).2) (fun j hj q hq => hd q (h.lts.2.2 j hj q hq).1 (h.lts.2.2 j hj q hq).2)

/-- rows of one type are not of another -/
theorem own_ne_ownN {w : World} {B B' n n' size size' : Nat} {e e' : TypeId} {v v' : Value} {xs xs' : List Value} (h : w.ownsRow B e size v n xs) (h' : w.ownsRow B' e' size' v' n' xs') (hT : e ≠ e') : ∀ q, v.ownBlock = some q → v'.ownBlock ≠ some q := fun q hq hq' => by
  rcases h.2 with ⟨hv, _⟩ | ⟨g, cap, cur, hv, _, hg, _⟩
  · rw [hv] at hq; cases hq
  rcases h'.2 with ⟨hv', _⟩ | ⟨g', cap', cur', hv', _, hg', _⟩
  · rw [hv'] at hq'; cases hq'
  rw [hv] at hq
  rw [hv'] at hq'
  obtain rfl : g = q := by simpa [Value.ownBlock] using hq
  obtain rfl : g' = g := by simpa [Value.ownBlock] using hq'
  rw [hg] at hg'
  injection hg' with hg'
  injection hg' with _ hg'
  exact hT hg'

theorem OwnN.upd {w w' : World} {lo : Nat} {v : Value} {N : List Nd} {nv kv : List Value} (h : OwnN w lo v N nv kv) (j : Nat) (hj : j < N.length) (hj' : j < nv.length) (hj2 : j < kv.length) (y : Nd)
    (hown : w'.ownsRow lo 91 5 v N.length (ndC (N.set j y) nv kv)) (hnm : w'.ownsRow lo 9 1 nv[j] y.names.length (y.names.map Value.string)) (hkd : w'.ownsRow lo 3 1 kv[j] y.kids.length (intsV y.kids))
    (hoth : ∀ i, (hi : i < nv.length) → i ≠ j → ∀ q, nv[i].ownBlock = some q → w'.heap[q]? = w.heap[q]?) (hotk : ∀ i, (hi : i < kv.length) → i ≠ j → ∀ q, kv[i].ownBlock = some q → w'.heap[q]? = w.heap[q]?) : OwnN w' lo v (N.set j y) nv kv :=
  ⟨by rw [List.length_set]; exact h.len, by rw [List.length_set]; exact h.lenk, by rw [List.length_set]; exact hown, fun i hi hi' => by
    rw [List.getElem_set]
    split
    · rename_i e; subst e; exact hnm
    · rename_i e
      exact owns_blocksN (h.names i (by simpa using hi) hi') (hoth i hi' (fun e' => e e'.symm)), fun i hi hi' => by
    rw [List.getElem_set]
    split
    · rename_i e; subst e; exact hkd
    · rename_i e
      exact owns_blocksN (h.kids i (by simpa using hi) hi') (hotk i hi' (fun e' => e e'.symm)), h.apart, h.apartk⟩

/-- a node's mark -/
def mkD (k m p : Nat) : Nd := ⟨((k : Nat) : Int), ((k + 1 : Nat) : Int), markS (k + 2), marks (k + 3) m, marksZ (k + 3 + m) p⟩

def nlen (x : Nd) : Nat := x.names.length + x.kids.length

def mdl : Nat → List Nd → List Nd
  | _, [] => []
  | k, x :: N => mkD k x.names.length x.kids.length :: mdl (k + 3 + nlen x) N

/-- the mark behind the first j -/
def mdK (k : Nat) (N : List Nd) (j : Nat) : Nat := k + 3 * j + ((N.take j).map nlen).sum

theorem mdl_len : ∀ (k : Nat) (N : List Nd), (mdl k N).length = N.length
  | _, [] => rfl
  | k, x :: N => by simp [mdl, mdl_len]

theorem mdK_succ (k : Nat) (N : List Nd) (j : Nat) (h : j < N.length) : mdK k N (j + 1) = mdK k N j + 3 + nlen N[j] := by
  rw [mdK, mdK, List.take_succ_eq_append_getElem h, List.map_append, List.sum_append]
  simp; omega

theorem mdK_zero (k : Nat) (N : List Nd) : mdK k N 0 = k := by simp [mdK]

theorem mdK_mono (k : Nat) (N : List Nd) (j : Nat) (h : j ≤ N.length) : mdK k N j ≤ mdK k N N.length := by
  have : ∀ d, j + d ≤ N.length → mdK k N j ≤ mdK k N (j + d) := by
    intro d
    induction d with
    | zero => intro _; exact Nat.le_refl _
    | succ d ih => intro hd; have := ih (by omega); have := mdK_succ k N (j + d) (by omega); rw [← Nat.add_assoc]; omega
  have := this (N.length - j) (by omega)
  rwa [show j + (N.length - j) = N.length by omega] at this

theorem mdl_at : ∀ (k : Nat) (N : List Nd) (j : Nat) (h : j < N.length) (h' : j < (mdl k N).length), (mdl k N)[j] = mkD (mdK k N j) N[j].names.length N[j].kids.length
  | k, x :: N, 0, _, _ => by simp [mdl, mdK]
  | k, x :: N, j + 1, h, h' => by
    have ih := mdl_at (k + 3 + nlen x) N j (by simpa using h) (by simpa [mdl] using h')
    simp only [mdl, List.getElem_cons_succ]
    rw [ih]
    congr 1
    simp only [mdK, List.take_succ_cons, List.map_cons, List.sum_cons]; omega

/-- the first j are marked -/
def mixD (k : Nat) (N : List Nd) (j : Nat) : List Nd := (mdl k N).take j ++ N.drop j

theorem mixD_zero (k : Nat) (N : List Nd) : mixD k N 0 = N := by simp [mixD]
theorem mixD_full (k : Nat) (N : List Nd) : mixD k N N.length = mdl k N := by rw [mixD, List.drop_length, List.append_nil, List.take_of_length_le (by rw [mdl_len]; exact Nat.le_refl _)]
theorem mixD_len (k : Nat) (N : List Nd) (j : Nat) (h : j ≤ N.length) : (mixD k N j).length = N.length := by
  rw [mixD, List.length_append, List.length_take, List.length_drop, mdl_len]; omega
theorem mixD_at (k : Nat) (N : List Nd) (j : Nat) (h : j < N.length) (h' : j < (mixD k N j).length) : (mixD k N j)[j] = N[j] := by
  have hl : ((mdl k N).take j).length = j := by rw [List.length_take, mdl_len]; omega
  simp only [mixD]
  rw [List.getElem_append_right (by omega)]
  simp only [hl, Nat.sub_self, List.getElem_drop, Nat.add_zero]
theorem mixD_set (k : Nat) (N : List Nd) (j : Nat) (h : j < N.length) : (mixD k N j).set j (mkD (mdK k N j) N[j].names.length N[j].kids.length) = mixD k N (j + 1) := by
  have hl : ((mdl k N).take j).length = j := by rw [List.length_take, mdl_len]; omega
  rw [mixD, List.drop_eq_getElem_cons h, List.set_append_right _ _ (by omega), hl, Nat.sub_self, List.set_cons_zero, mixD, List.take_succ_eq_append_getElem (by rw [mdl_len]; exact h), mdl_at k N j h, List.append_assoc]
  rfl

/-- all of it lies below hi -/
def InN (v : Value) (nv kv : List Value) (hi : Nat) : Prop := (∀ q, v.ownBlock = some q → q < hi) ∧ (∀ j, (hj : j < nv.length) → ∀ q, nv[j].ownBlock = some q → q < hi) ∧ ∀ j, (hj : j < kv.length) → ∀ q, kv[j].ownBlock = some q → q < hi

/-- blocks beside these are as they were -/
def KeepN (w w' : World) (v : Value) (nv kv : List Value) : Prop := ∀ q, q < w.heap.size → v.ownBlock ≠ some q → (∀ j, (hj : j < nv.length) → nv[j].ownBlock ≠ some q) → (∀ j, (hj : j < kv.length) → kv[j].ownBlock ≠ some q) → w'.heap[q]? = w.heap[q]?

/-- a small node -/
def okN (x : Nd) : Prop := x.names.length ≤ 1048576 ∧ x.kids.length ≤ 1048576 ∧ ∀ s ∈ x.names, s.size ≤ maxLen

end Go.Proofs.YtcehablmloleaaaGreatDoor

/-
  NUB, NUD. Own work.
-/
import Derived.Test.YtcehablmloleaaaGreatDoorNUA
import Derived.Test.YtcehablmloleaaaGreatDoorMXAB
import Derived.Deep.AppendLies
import Derived.Deep.RegionLaw
namespace Go.Proofs.YtcehablmloleaaaGreatDoor
open Go.RowKit
set_option linter.unusedVariables false

theorem OwnN.snoc {w1 w2 : World} {lo : Nat} {v v' u k : Value} {N : List Nd} {nv kv : List Value} {x : Nd} (h : OwnN w1 lo v N nv kv)
    (hu : w1.ownsRow lo 9 1 u x.names.length (x.names.map Value.string)) (hk : w1.ownsRow lo 3 1 k x.kids.length (intsV x.kids)) (hua : ∀ j, (hj : j < nv.length) → ∀ q, nv[j].ownBlock = some q → u.ownBlock ≠ some q) (hka : ∀ j, (hj : j < kv.length) → ∀ q, kv[j].ownBlock = some q → k.ownBlock ≠ some q)
    (hown : w2.ownsRow lo 91 5 v' (N.length + 1) (ndC N nv kv ++ nd5 x u k)) (hg : w1.grownBy w2 v.ownBlock) : OwnN w2 lo v' (N ++ [x]) (nv ++ [u]) (kv ++ [k]) := by
  have hl := h.len
  have hlk := h.lenk
  have kpN : ∀ {n : Nat} {y : Value} {xs : List Value}, w1.ownsRow lo 9 1 y n xs → w2.ownsRow lo 9 1 y n xs := fun o => owns_blocksN o (fun q hq => hg.block q (o.lt q hq).2 (fun e => own_ne_ownN o h.own (by decide) q hq e.symm))
  have kpI : ∀ {n : Nat} {y : Value} {xs : List Value}, w1.ownsRow lo 3 1 y n xs → w2.ownsRow lo 3 1 y n xs := fun o => owns_blocksN o (fun q hq => hg.block q (o.lt q hq).2 (fun e => own_ne_ownN o h.own (by decide) q hq e.symm))
  refine ⟨by simp [hl], by simp [hlk], by rw [List.length_append, List.length_singleton, ndC_snoc _ _ _ _ _ _ hl hlk]; exact hown, fun j hj hj' => ?_, fun j hj hj' => ?_, fun i j hij hj q hq => ?_, fun i j hij hj q hq => ?_⟩
  · by_cases hjn : j < nv.length
    · have a1 : (nv ++ [u])[j] = nv[j] := List.getElem_append_left hjn
      have a2 : (N ++ [x])[j] = N[j]'(by omega) := List.getElem_append_left (by omega)
      rw [a1, a2]
      exact kpN (h.names j (by omega) hjn)
    · have e : j = nv.length := by simp at hj'; omega
      subst e
      have a1 : (nv ++ [u])[nv.length]'hj' = u := by simp
      have a2 : (N ++ [x])[nv.length]'hj = x := by simp [hl]
      rw [a1, a2]
      exact kpN hu
  · by_cases hjn : j < kv.length
    · have a1 : (kv ++ [k])[j] = kv[j] := List.getElem_append_left hjn
      have a2 : (N ++ [x])[j] = N[j]'(by omega) := List.getElem_append_left (by omega)
      rw [a1, a2]
      exact kpI (h.kids j (by omega) hjn)
    · have e : j = kv.length := by simp at hj'; omega
      subst e
      have a1 : (kv ++ [k])[kv.length]'hj' = k := by simp
      have a2 : (N ++ [x])[kv.length]'hj = x := by simp [hlk]
      rw [a1, a2]
      exact kpI hk
  · by_cases hjn : j < nv.length
    · rw [List.getElem_append_left hjn]
      rw [List.getElem_append_left (by omega)] at hq
      exact h.apart i j hij hjn q hq
    · have e : j = nv.length := by simp at hj; omega
      subst e
      rw [List.getElem_append_left hij] at hq
      simp
      exact hua i hij q hq
  · by_cases hjn : j < kv.length
    · rw [List.getElem_append_left hjn]
      rw [List.getElem_append_left (by omega)] at hq
      exact h.apartk i j hij hjn q hq
    · have e : j = kv.length := by simp at hj; omega
      subst e
      rw [List.getElem_append_left hij] at hq
      simp
      exact hka i hij q hq

/-- a numbering, as it lies -/
structure NuO (w : World) (B nb : Nat) (N : List Nd) (P : List Int) (nd pl : Value) (nv kv : List Value) : Prop where
  row : Row w nb #[nd, pl] 116
  nodes : OwnN w B nd N nv kv
  places : w.ownsRow B 3 1 pl P.length (intsV P)
  apart : ∀ q, pl.ownBlock = some q → ∀ j, (hj : j < kv.length) → kv[j].ownBlock ≠ some q
  low : B ≤ nb

/-- what else lies there -/
structure Nk (B nb : Nat) (nd pl : Value) (w : World) (nd' pl' : Value) (w' : World) : Prop where
  low : Below B w w'
  block : ∀ k, k < w.heap.size → k ≠ nb → nd.ownBlock ≠ some k → pl.ownBlock ≠ some k → w'.heap[k]? = w.heap[k]?
  newN : ∀ q, nd'.ownBlock = some q → nd.ownBlock = some q ∨ w.heap.size ≤ q
  newP : ∀ q, pl'.ownBlock = some q → pl.ownBlock = some q ∨ w.heap.size ≤ q

theorem Nk.refl (B nb : Nat) (nd pl : Value) (w : World) : Nk B nb nd pl w nd pl w := ⟨Below.refl _ _, fun _ _ _ _ _ => rfl, fun q h => .inl h, fun q h => .inl h⟩

theorem Nk.trans {B nb : Nat} {nd pl nd1 pl1 nd2 pl2 : Value} {w w1 w2 : World} (h : Nk B nb nd pl w nd1 pl1 w1) (k : Nk B nb nd1 pl1 w1 nd2 pl2 w2) : Nk B nb nd pl w nd2 pl2 w2 := by
  have hz := h.low.size
  refine ⟨h.low.trans k.low, fun q h1 h2 h3 h4 => ?_, fun q hq => ?_, fun q hq => ?_⟩
  · refine (k.block q (Nat.lt_of_lt_of_le h1 hz) h2 (fun e => ?_) (fun e => ?_)).trans (h.block q h1 h2 h3 h4)
    · rcases h.newN q e with e | e
      · exact h3 e
      · omega
    · rcases h.newP q e with e | e
      · exact h4 e
      · omega
  · rcases k.newN q hq with e | e
    · exact h.newN q e
    · exact .inr (by omega)
  · rcases k.newP q hq with e | e
    · exact h.newP q e
    · exact .inr (by omega)

theorem Nk.of_all {B nb : Nat} {nd pl : Value} {w w' : World} (h : Below w.heap.size w w') (hB : B ≤ w.heap.size) : Nk B nb nd pl w nd pl w' :=
  ⟨h.mono hB, fun k h1 _ _ _ => h.block k h1, fun q hq => .inl hq, fun q hq => .inl hq⟩

theorem NuO.below {w w' : World} {B nb : Nat} {N : List Nd} {P : List Int} {nd pl : Value} {nv kv : List Value} (h : NuO w B nb N P nd pl nv kv) (hb : Below w.heap.size w w') : NuO w' B nb N P nd pl nv kv :=
  ⟨h.row.after hb (Nat.le_refl _), h.nodes.blocks (fun k _ hk => hb.block k hk), owns_blocksN h.places (fun q hq => hb.block q (h.places.lt q hq).2), h.apart, h.low⟩

/-- a row of another type is kept -/
theorem Nk.row {B nb : Nat} {nd pl nd' pl' : Value} {w w' : World} {N : List Nd} {P : List Int} {nv kv : List Value} (h : Nk B nb nd pl w nd' pl' w') (C : NuO w B nb N P nd pl nv kv) {g : Nat} {cs : Array Value} {t : TypeId} (R : Row w g cs t) (h1 : t ≠ 116) (h2 : t ≠ 91) (h3 : t ≠ 3) : Row w' g cs t :=
  ⟨(h.block g R.lt (fun e => by
    have r1 := R.out
    have r2 := C.row.out
    rw [e] at r1
    rw [r1] at r2
    injection r2 with r2
    injection r2 with _ r2
    exact h1 r2) (own_ne_row R C.nodes.own h2) (own_ne_row R C.places h3)).trans R.out⟩

/-- the kids so far -/
structure Kn (B nb g : Nat) (w : World) (nd pl : Value) (N : List Nd) (P : List Int) (nd1 pl1 : Value) (nv kv : List Value) (kw : Value) (ks : List Int) (vs : Array Value) (w2 : World) : Prop where
  C : NuO w2 B nb N P nd1 pl1 nv kv
  K : Nk B nb nd pl w nd1 pl1 w2
  R : Row w2 g vs 109
  O : w2.ownsRow w.heap.size 3 1 kw ks.length (intsV ks)
  ap : ∀ q, kw.ownBlock = some q → pl1.ownBlock ≠ some q ∧ ∀ j, (hj : j < kv.length) → kv[j].ownBlock ≠ some q

/-- behind a kid's numbering -/
theorem Kn.call {B nb g : Nat} {w w2 w3 : World} {nd pl nd1 pl1 nd2 pl2 kw : Value} {N M : List Nd} {P Q : List Int} {nv kv nv' kv' : List Value} {ks : List Int} {vs : Array Value} (h : Kn B nb g w nd pl N P nd1 pl1 nv kv kw ks vs w2) (C3 : NuO w3 B nb (N ++ M) (P ++ Q) nd2 pl2 (nv ++ nv') (kv ++ kv')) (K3 : Nk B nb nd1 pl1 w2 nd2 pl2 w3) (hkv : ∀ j, (hj : j < kv'.length) → ∀ q, kv'[j].ownBlock = some q → w2.heap.size ≤ q) :
    Kn B nb g w nd pl (N ++ M) (P ++ Q) nd2 pl2 (nv ++ nv') (kv ++ kv') kw ks vs w3 := by
  have hz := h.K.low.size
  have hO : w3.ownsRow w.heap.size 3 1 kw ks.length (intsV ks) := owns_blocksN h.O (fun q hq => K3.block q (h.O.lt q hq).2 (fun e => own_ne_row h.C.row h.O (by decide) (by rw [hq, e])) (fun e => own_ne_ownN h.O h.C.nodes.own (by decide) q hq e) (h.ap q hq).1)
  refine ⟨C3, h.K.trans K3, K3.row h.C h.R (by decide) (by decide) (by decide), hO, fun q hq => ⟨fun e => ?_, fun j hj e => ?_⟩⟩
  · rcases K3.newP q e with e | e
    · exact (h.ap q hq).1 e
    · have := (h.O.lt q hq).2; omega
  · by_cases hjn : j < kv.length
    · rw [List.getElem_append_left hjn] at e
      exact (h.ap q hq).2 j hjn e
    · rw [List.getElem_append_right (by omega)] at e
      have := hkv _ (by simp at hj; omega) q e
      have := (h.O.lt q hq).2
      omega

/-- a kid's place is put behind the others -/
theorem Kn.app {B nb g : Nat} {w w2 w3 : World} {nd pl nd1 pl1 kw : Value} {N : List Nd} {P : List Int} {nv kv : List Value} {ks : List Int} {vs : Array Value} {o : Obj} {a : Int} {gk cap : Nat} (h : Kn B nb g w nd pl N P nd1 pl1 nv kv kw ks vs w2) (hB : B ≤ w.heap.size)
    (O3 : w3.ownsRow w.heap.size 3 1 (.slice (some ⟨gk, 0, none⟩) (ks.length + 1) cap) (ks.length + 1) (intsV ks ++ [.int .i64 a])) (hg : (w2.alloc o).grownBy w3 kw.ownBlock) (hat : kw.ownBlock = some gk ∨ gk = w2.heap.size + 1) :
    Kn B nb g w nd pl N P nd1 pl1 nv kv (.slice (some ⟨gk, 0, none⟩) (ks.length + 1) cap) (ks ++ [a]) vs w3 := by
  have hz := h.K.low.size
  have C0 := (Below.refl w2.heap.size w2).alloc (Nat.le_refl _) o
  have za : (w2.alloc o).heap.size = w2.heap.size + 1 := by simp
  have hk : ∀ q, q < w2.heap.size → kw.ownBlock ≠ some q → w3.heap[q]? = w2.heap[q]? := fun q h1 h2 => (hg.block q (by rw [za]; omega) (fun e => h2 e.symm)).trans (Below.heap_alloc w2 o q h1)
  have C := h.C
  have n1 : kw.ownBlock ≠ some nb := own_ne_row C.row h.O (by decide)
  refine ⟨⟨⟨(hk nb C.row.lt n1).trans C.row.out⟩, ?_, ?_, C.apart, C.low⟩, ⟨?_, fun q h1 h2 h3 h4 => ?_, h.K.newN, h.K.newP⟩, ⟨(hk g h.R.lt (own_ne_row h.R h.O (by decide))).trans h.R.out⟩, by rw [List.length_append]; simpa [intsV] using O3, fun q hq => ?_⟩
  · exact C.nodes.upto (fun q hq => hk q (C.nodes.lts.1 q hq).2 (fun e => own_ne_ownN h.O C.nodes.own (by decide) q e hq)) (fun j hj q hq => hk q (C.nodes.lts.2.1 j hj q hq).2 (fun e => own_ne_ownN h.O (C.nodes.names j (by rw [← C.nodes.len]; exact hj) hj) (by decide) q e hq)) (fun j hj q hq => hk q (C.nodes.lts.2.2 j hj q hq).2 (fun e => (h.ap q e).2 j hj hq))
  · exact owns_blocksN C.places (fun q hq => hk q (C.places.lt q hq).2 (fun e => (h.ap q e).1 hq))
  · exact (h.K.low.alloc (Nat.le_trans hB hz) o).grown hg (by rw [za]; omega) (fun q hq => by have := (h.O.lt q hq).1; omega)
  · have hw2 := Nat.lt_of_lt_of_le h1 hz
    refine (hk q hw2 (fun e => by have := (h.O.lt q e).1; omega)).trans (h.K.block q h1 h2 h3 h4)
  · have e : gk = q := by simpa [Value.ownBlock] using hq
    subst e
    rcases hat with e | e
    · exact h.ap gk e
    · refine ⟨fun e' => ?_, fun j hj e' => ?_⟩
      · have := (C.places.lt gk e').2; omega
      · have := (C.nodes.lts.2.2 j hj gk e').2; omega

end Go.Proofs.YtcehablmloleaaaGreatDoor

namespace Go.Proofs.YtcehablmloleaaaGreatDoor
open Go.RowKit
set_option linter.unusedVariables false

theorem Kn.below {B nb g : Nat} {w w2 w3 : World} {nd pl nd1 pl1 kw : Value} {N : List Nd} {P : List Int} {nv kv : List Value} {ks : List Int} {vs : Array Value} (h : Kn B nb g w nd pl N P nd1 pl1 nv kv kw ks vs w2) (hb : Below w2.heap.size w2 w3) (hB : B ≤ w2.heap.size) : Kn B nb g w nd pl N P nd1 pl1 nv kv kw ks vs w3 :=
  ⟨h.C.below hb, h.K.trans (Nk.of_all hb hB), h.R.after hb (Nat.le_refl _), owns_blocksN h.O (fun q hq => hb.block q (h.O.lt q hq).2), h.ap⟩

theorem grow_keep {W w7 : World} {o : Obj} {row : Option Nat} (hg : (W.alloc o).grownBy w7 row) : ∀ q, q < W.heap.size → row ≠ some q → w7.heap[q]? = W.heap[q]? := fun q h1 h2 => (hg.block q (by simp; omega) (fun e => h2 e.symm)).trans (Below.heap_alloc W o q h1)

theorem NuO.pushN {W w7 : World} {B nb g7 c7 : Nat} {N : List Nd} {P : List Int} {nd pl u k : Value} {nv kv : List Value} {x : Nd} (C : NuO W B nb N P nd pl nv kv) (o : Obj) (hB : B ≤ W.heap.size) (hu : W.ownsRow B 9 1 u x.names.length (x.names.map Value.string)) (hk : W.ownsRow B 3 1 k x.kids.length (intsV x.kids))
    (hua : ∀ j, (hj : j < nv.length) → ∀ q, nv[j].ownBlock = some q → u.ownBlock ≠ some q) (hka : ∀ j, (hj : j < kv.length) → ∀ q, kv[j].ownBlock = some q → k.ownBlock ≠ some q) (hpk : ∀ q, k.ownBlock = some q → pl.ownBlock ≠ some q)
    (hg : (W.alloc o).grownBy w7 nd.ownBlock) (O7 : w7.ownsRow B 91 5 (.slice (some ⟨g7, 0, none⟩) (N.length + 1) c7) (N.length + 1) (ndC N nv kv ++ nd5 x u k)) (hat : nd.ownBlock = some g7 ∨ g7 = W.heap.size + 1) :
    NuO (w7.setCell ⟨nb, 0, none⟩ (.slice (some ⟨g7, 0, none⟩) (N.length + 1) c7)) B nb (N ++ [x]) P (.slice (some ⟨g7, 0, none⟩) (N.length + 1) c7) pl (nv ++ [u]) (kv ++ [k]) ∧ Nk B nb nd pl W (.slice (some ⟨g7, 0, none⟩) (N.length + 1) c7) pl (w7.setCell ⟨nb, 0, none⟩ (.slice (some ⟨g7, 0, none⟩) (N.length + 1) c7)) := by
  have C0 := (Below.refl W.heap.size W).alloc (Nat.le_refl _) o
  have C1 := C.below C0
  have hu1 := owns_blocksN (w' := W.alloc o) hu (fun q hq => C0.block q (hu.lt q hq).2)
  have hk1 := owns_blocksN (w' := W.alloc o) hk (fun q hq => C0.block q (hk.lt q hq).2)
  have n1 : nd.ownBlock ≠ some nb := own_ne_row C.row C.nodes.own (by decide)
  have R7 : Row w7 nb #[nd, pl] 116 := ⟨(grow_keep hg nb C.row.lt n1).trans C.row.out⟩
  have N7 := C1.nodes.snoc hu1 hk1 hua hka O7 hg
  have P7 : w7.ownsRow B 3 1 pl P.length (intsV P) := owns_blocksN C.places (fun q hq => grow_keep hg q (C.places.lt q hq).2 (fun e => own_ne_ownN C.places C.nodes.own (by decide) q hq e))
  have sc : ∀ q, q ≠ nb → (w7.setCell ⟨nb, 0, none⟩ (.slice (some ⟨g7, 0, none⟩) (N.length + 1) c7)).heap[q]? = w7.heap[q]? := fun q hq => heap_setCell_other w7 ⟨nb, 0, none⟩ q _ hq
  refine ⟨⟨R7.set 0 _, N7.upto (fun q hq => sc q (fun e => own_ne_row R7 N7.own (by decide) (by rw [hq, e]))) (fun j hj q hq => sc q (fun e => own_ne_row R7 (N7.names j (by rw [← N7.len]; exact hj) hj) (by decide) (by rw [hq, e]))) (fun j hj q hq => sc q (fun e => own_ne_row R7 (N7.kids j (by rw [← N7.lenk]; exact hj) hj) (by decide) (by rw [hq, e]))), owns_blocksN P7 (fun q hq => sc q (fun e => own_ne_row R7 P7 (by decide) (by rw [hq, e]))), fun q hq j hj e => ?_, C.low⟩, ⟨?_, fun q h1 h2 h3 h4 => (sc q h2).trans (grow_keep hg q h1 h3), fun q hq => ?_, fun q hq => .inl hq⟩⟩
  · by_cases hjn : j < kv.length
    · rw [List.getElem_append_left hjn] at e
      exact C.apart q hq j hjn e
    · have ej : j = kv.length := by simp at hj; omega
      subst ej
      simp at e
      exact hpk q e hq
  · exact ((C0.mono hB).grown hg (by simp; omega) (fun q hq => (C.nodes.lts.1 q hq).1)).setCell (p := ⟨nb, 0, none⟩) C.low _
  · have e : g7 = q := by simpa [Value.ownBlock] using hq
    subst e
    exact hat.imp id (fun e => by omega)

theorem NuO.pushP {W w7 : World} {B nb g7 c7 : Nat} {N : List Nd} {P : List Int} {nd pl : Value} {nv kv : List Value} (C : NuO W B nb N P nd pl nv kv) (o : Obj) (a : Int) (hB : B ≤ W.heap.size)
    (hg : (W.alloc o).grownBy w7 pl.ownBlock) (O7 : w7.ownsRow B 3 1 (.slice (some ⟨g7, 0, none⟩) (P.length + 1) c7) (P.length + 1) (intsV P ++ [.int .i64 a])) (hat : pl.ownBlock = some g7 ∨ g7 = W.heap.size + 1) :
    NuO (w7.setCell ⟨nb, 1, none⟩ (.slice (some ⟨g7, 0, none⟩) (P.length + 1) c7)) B nb N (P ++ [a]) nd (.slice (some ⟨g7, 0, none⟩) (P.length + 1) c7) nv kv ∧ Nk B nb nd pl W nd (.slice (some ⟨g7, 0, none⟩) (P.length + 1) c7) (w7.setCell ⟨nb, 1, none⟩ (.slice (some ⟨g7, 0, none⟩) (P.length + 1) c7)) := by
  have C0 := (Below.refl W.heap.size W).alloc (Nat.le_refl _) o
  have n1 : pl.ownBlock ≠ some nb := own_ne_row C.row C.places (by decide)
  have R7 : Row w7 nb #[nd, pl] 116 := ⟨(grow_keep hg nb C.row.lt n1).trans C.row.out⟩
  have sc : ∀ q, q ≠ nb → (w7.setCell ⟨nb, 1, none⟩ (.slice (some ⟨g7, 0, none⟩) (P.length + 1) c7)).heap[q]? = w7.heap[q]? := fun q hq => heap_setCell_other w7 ⟨nb, 1, none⟩ q _ hq
  have N7 : OwnN w7 B nd N nv kv := C.nodes.upto (fun q hq => grow_keep hg q (C.nodes.lts.1 q hq).2 (fun e => own_ne_ownN C.places C.nodes.own (by decide) q e hq)) (fun j hj q hq => grow_keep hg q (C.nodes.lts.2.1 j hj q hq).2 (fun e => own_ne_ownN C.places (C.nodes.names j (by rw [← C.nodes.len]; exact hj) hj) (by decide) q e hq)) (fun j hj q hq => grow_keep hg q (C.nodes.lts.2.2 j hj q hq).2 (fun e => C.apart q e j hj hq))
  refine ⟨⟨R7.set 1 _, N7.upto (fun q hq => sc q (fun e => own_ne_row R7 N7.own (by decide) (by rw [hq, e]))) (fun j hj q hq => sc q (fun e => own_ne_row R7 (N7.names j (by rw [← N7.len]; exact hj) hj) (by decide) (by rw [hq, e]))) (fun j hj q hq => sc q (fun e => own_ne_row R7 (N7.kids j (by rw [← N7.lenk]; exact hj) hj) (by decide) (by rw [hq, e]))), ?_, fun q hq j hj e => ?_, C.low⟩, ⟨?_, fun q h1 h2 h3 h4 => (sc q h2).trans (grow_keep hg q h1 h4), fun q hq => .inl hq, fun q hq => ?_⟩⟩
  · have := owns_blocksN (w' := w7.setCell ⟨nb, 1, none⟩ (.slice (some ⟨g7, 0, none⟩) (P.length + 1) c7)) O7 (fun q hq => sc q (fun e => own_ne_row R7 O7 (by decide) (by rw [hq, e])))
    simpa [intsV] using this
  · have eg : g7 = q := by simpa [Value.ownBlock] using hq
    subst eg
    rcases hat with h1 | h1
    · exact C.apart g7 h1 j hj e
    · have := (C.nodes.lts.2.2 j hj g7 e).2; omega
  · exact ((C0.mono hB).grown hg (by simp; omega) (fun q hq => (C.places.lt q hq).1)).setCell (p := ⟨nb, 1, none⟩) C.low _
  · have e : g7 = q := by simpa [Value.ownBlock] using hq
    subst e
    exact hat.imp id (fun e => by omega)

end Go.Proofs.YtcehablmloleaaaGreatDoor

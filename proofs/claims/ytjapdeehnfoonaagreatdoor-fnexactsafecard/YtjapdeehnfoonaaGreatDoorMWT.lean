/-
  Open, ZV. Own work.
-/
import Derived.Test.YtjapdeehnfoonaaGreatDoorMWA
import Derived.ProofKit
import Derived.SliceStrings
import Derived.Test.YtjapdeehnfoonaaGreatDoorMWQ
import Derived.Deep.Slices
import Derived.OpenShut
namespace Go.Proofs.YtjapdeehnfoonaaGreatDoor
open Go.ChangeShapes Go.WideShapes Go.RowKit

theorem lt_of_cell {w : World} {p : Addr} {v : Value} (h : w.cell? p = some v) : p.block < w.heap.size := by
  by_cases hb : p.block < w.heap.size
  · exact hb
  · have : w.heap[p.block]? = none := Array.getElem?_eq_none (by omega)
    simp [World.cell?, this] at h

theorem Strs.of_trod {H : Type} {enc : TypeId × Value → H} {P : Program} {w : World} {held : Bool} {t e : TypeId} {fuel : Nat} {x : DataW H × List MemPlace} {a : Option Addr} {n c : Nat}
    (ht : P.underlying t = some (.slice e)) (he : P.underlying e = some .string) (hc : P.cellsOf e = 1)
    (h : DataW.trod enc P w 0 (fun _ => true) held fuel t [.slice a n c] = some x) : ∃ ss, Strs w a n c ss := by
  rcases open_strings ht he hc h with ⟨hcs, _⟩ | ⟨ad, len, cap, ss, hcs, _, hl, hm, hz, _, hcell, hws⟩
  · simp only [List.cons.injEq, Value.slice.injEq, and_true] at hcs
    obtain ⟨rfl, rfl, rfl⟩ := hcs
    exact ⟨[], rfl, Nat.le_refl _, Nat.zero_le _, fun j hj => by omega, fun j hj => by omega⟩
  · simp only [List.cons.injEq, Value.slice.injEq, and_true] at hcs
    obtain ⟨rfl, rfl, rfl⟩ := hcs
    simp only [if_true] at hz
    have hlen : (ss.take n).length = n := by simp; omega
    have hnth : ∀ j, j < n → nth (ss.take n) j = ss.getD j ByteArray.empty := fun j hj => by
      rw [nth_eq _ j (by omega), List.getElem_take]
      simp [List.getD, show j < ss.length from by omega]
    refine ⟨ss.take n, hlen.symm, hl, hm, fun j hj => ?_, fun j hj => ?_⟩
    · rw [hnth j hj]
      apply hws
      simp [List.getD, show j < ss.length from by omega]
    · have hcj := hcell j (by omega)
      have hs := World.cell?_spot (hcell 0 (by omega))
      obtain ⟨b, off, spot⟩ := ad
      simp only [Addr.add, if_true] at hs
      subst hs
      have hadd : (⟨b, off, none⟩ : Addr).add j = ⟨b, off + j, none⟩ := by
        by_cases e : j = 0 <;> simp [Addr.add, e]
      rw [hadd] at hcj
      refine ⟨b, off, rfl, ?_, ?_⟩
      · exact lt_of_cell hcj
      · rw [hnth j hj, ← hcj]

end Go.Proofs.YtjapdeehnfoonaaGreatDoor

namespace Go.Proofs.YtjapdeehnfoonaaGreatDoor
set_option maxRecDepth 100000
open Go.ChangeShapes Go.WideShapes Go.RowKit Go.Deep
set_option linter.unusedVariables false

theorem cellsStr : Tryz.prog.cellsOf 9 = 1 := by kernel_rfl
theorem cellsI64 : Tryz.prog.cellsOf 2 = 1 := by kernel_rfl
theorem cellsInt : Tryz.prog.cellsOf 3 = 1 := by kernel_rfl
theorem cellsSS : Tryz.prog.cellsOf 40 = 1 := by kernel_rfl
theorem cellsIS : Tryz.prog.cellsOf 24 = 1 := by kernel_rfl
theorem cellsNd : Tryz.prog.cellsOf 59 = 5 := by kernel_rfl
theorem cellsSt : Tryz.prog.cellsOf 62 = 4 := by kernel_rfl
theorem cellsNdS : Tryz.prog.cellsOf 22 = 1 := by kernel_rfl
theorem cellsStS : Tryz.prog.cellsOf 23 = 1 := by kernel_rfl
theorem cellsTyp : Tryz.prog.cellsOf 26 = 3 := by kernel_rfl

instance : Inhabited Nd := ⟨⟨0, 0, ⟨#[]⟩, [], []⟩⟩
instance : Inhabited St := ⟨⟨0, ⟨#[]⟩, 0, 0⟩⟩

section
variable {H : Type} {enc : TypeId × Value → H} {w : World} {held : Bool}

theorem add_lit' (b off j : Nat) : (⟨b, off, none⟩ : Addr).add j = ⟨b, off + j, none⟩ := by
  by_cases e : j = 0 <;> simp [Addr.add, e]

theorem slice_form {t e : TypeId} {fuel : Nat} {v : Value} {x : DataW H × List MemPlace} (ht : Tryz.prog.underlying t = some (.slice e)) (h : DataW.trod enc Tryz.prog w 0 (fun _ => true) held fuel t [v] = some x) : ∃ a l c, v = .slice a l c := by
  rcases open_slice ht h with ⟨hcs, _⟩ | ⟨_, _, _, _, _, _, _, hcs, _⟩
  · simp only [List.cons.injEq, and_true] at hcs; exact ⟨_, _, _, hcs⟩
  · simp only [List.cons.injEq, and_true] at hcs; exact ⟨_, _, _, hcs⟩

theorem spot_of {a : Addr} {v : Value} (h : w.cell? (a.add 0) = some v) : ∃ b off, a = ⟨b, off, none⟩ := by
  have hs := World.cell?_spot h
  obtain ⟨b, off, spot⟩ := a
  simp [Addr.add] at hs
  subst hs
  exact ⟨b, off, rfl⟩

theorem IntsR.of_trod {fuel : Nat} {x : DataW H × List MemPlace} {a : Option Addr} {n c : Nat} (h : DataW.trod enc Tryz.prog w 0 (fun _ => true) held fuel 24 [.slice a n c] = some x) : ∃ L, IntsR w a n c L := by
  rcases open_slice1 Tryz.underlying24 cellsInt h with ⟨hcs, _⟩ | ⟨ad, len, cap, m, k, V, D, Pl, hcs, _, hl, hm, hmm, _, hx⟩
  · simp only [List.cons.injEq, Value.slice.injEq, and_true] at hcs
    obtain ⟨rfl, rfl, rfl⟩ := hcs
    exact ⟨[], rfl, Nat.le_refl _, Nat.zero_le _, fun j hj => absurd hj (by simp)⟩
  · simp only [List.cons.injEq, Value.slice.injEq, and_true] at hcs
    obtain ⟨rfl, rfl, rfl⟩ := hcs
    simp only [if_true] at hmm
    obtain ⟨f, hf⟩ := choose_lt (α := Int) (n := n) (p := fun i z => w.cell? (ad.add i) = some (.int .i64 z)) (fun i hi => by
      obtain ⟨h1, h2⟩ := hx i (by omega)
      obtain ⟨z, hz, _⟩ := DataW.trod_int Tryz.underlying3 h2
      simp only [List.cons.injEq, and_true] at hz
      exact ⟨z, by rw [h1, hz]⟩)
    refine ⟨(List.range n).map f, by simp, hl, hm, fun j hj => ?_⟩
    have hjn : j < n := by simpa using hj
    obtain ⟨b, off, rfl⟩ := spot_of (hf 0 (by omega))
    have hc := hf j hjn
    rw [add_lit'] at hc
    refine ⟨b, off, rfl, lt_of_cell hc, ?_⟩
    rw [hc]
    simp

theorem NdAtR.of_trod {fuel b o : Nat} {cs : List Value} {x : DataW H × List MemPlace} (h : DataW.trod enc Tryz.prog w 0 (fun _ => true) held fuel 59 cs = some x) (hc : ∀ i, i < 5 → w.cell? ⟨b, o + i, none⟩ = cs[i]?) : ∃ y : Nd, NdAtR w b o y ∧ y.text.size ≤ maxLen ∧ y.num ≤ 9223372036854775807 := by
  obtain ⟨xs, n, _, _, hcl, hlen, hx⟩ := DataW.trod_struct Tryz.underlying59 h
  rw [cellsNd] at hcl
  match cs, hcl with
  | [x0, x1, x2, x3, x4], _ =>
    have get : ∀ i, i < 5 → ∃ y, xs[i]? = some y := fun i hi => ⟨xs[i]'(by simp at hlen; omega), List.getElem?_eq_getElem _⟩
    obtain ⟨y0, e0⟩ := get 0 (by omega)
    obtain ⟨y1, e1⟩ := get 1 (by omega)
    obtain ⟨y2, e2⟩ := get 2 (by omega)
    obtain ⟨y3, e3⟩ := get 3 (by omega)
    obtain ⟨y4, e4⟩ := get 4 (by omega)
    have f0 : DataW.trod enc Tryz.prog w 0 (fun _ => true) held n 3 [x0] = some y0 := by
      have := (hx 0 _ rfl).trans e0
      simpa [cellsInt] using this
    have f1 : DataW.trod enc Tryz.prog w 0 (fun _ => true) held n 2 [x1] = some y1 := by
      have := (hx 1 _ rfl).trans e1
      simpa [cellsI64] using this
    have f2 : DataW.trod enc Tryz.prog w 0 (fun _ => true) held n 9 [x2] = some y2 := by
      have := (hx 2 _ rfl).trans e2
      simpa [cellsStr] using this
    have f3 : DataW.trod enc Tryz.prog w 0 (fun _ => true) held n 40 [x3] = some y3 := by
      have := (hx 3 _ rfl).trans e3
      simpa [cellsSS] using this
    have f4 : DataW.trod enc Tryz.prog w 0 (fun _ => true) held n 24 [x4] = some y4 := by
      have := (hx 4 _ rfl).trans e4
      simpa [cellsIS] using this
    obtain ⟨op, k0, _, _⟩ := DataW.trod_int Tryz.underlying3 f0
    obtain ⟨num, k1, _, hwf⟩ := DataW.trod_int Tryz.underlying2 f1
    have hnum : num ≤ 9223372036854775807 := by
      simp only [Lit.wf, Bool.and_eq_true, decide_eq_true_eq] at hwf
      exact hwf.2
    obtain ⟨text, k2, _, htx⟩ := DataW.trod_string Tryz.underlying9 f2
    simp only [List.cons.injEq, and_true] at k0 k1 k2
    subst k0 k1 k2
    obtain ⟨an, nn, cn, rfl⟩ := slice_form Tryz.underlying40 f3
    obtain ⟨ak, nk, ck, rfl⟩ := slice_form Tryz.underlying24 f4
    obtain ⟨names, hN⟩ := Strs.of_trod Tryz.underlying40 Tryz.underlying9 cellsStr f3
    obtain ⟨kids, hK⟩ := IntsR.of_trod f4
    exact ⟨⟨op, num, text, names, kids⟩, ⟨an, nn, cn, ak, nk, ck, hc 0 (by omega), hc 1 (by omega), hc 2 (by omega), hc 3 (by omega), hc 4 (by omega), hN, hK⟩, htx, hnum⟩

theorem NdsR.of_trod {fuel : Nat} {x : DataW H × List MemPlace} {a : Option Addr} {n c : Nat} (h : DataW.trod enc Tryz.prog w 0 (fun _ => true) held fuel 22 [.slice a n c] = some x) : ∃ L, NdsR w a n c L ∧ ∀ x ∈ L, x.num ≤ 9223372036854775807 := by
  rcases open_slice Tryz.underlying22 h with ⟨hcs, _⟩ | ⟨ad, len, cap, m, k, D, Pl, hcs, _, hl, hm, hmm, _, hx⟩
  · simp only [List.cons.injEq, Value.slice.injEq, and_true] at hcs
    obtain ⟨rfl, rfl, rfl⟩ := hcs
    exact ⟨[], ⟨rfl, Nat.le_refl _, Nat.zero_le _, fun x hx => (by cases hx), fun j hj => absurd hj (by simp)⟩, fun x hx => (by cases hx)⟩
  · simp only [List.cons.injEq, Value.slice.injEq, and_true] at hcs
    obtain ⟨rfl, rfl, rfl⟩ := hcs
    simp only [if_true] at hmm
    rw [cellsNd] at hx
    obtain ⟨f, hf⟩ := choose_lt (α := Nd) (n := n) (p := fun i y => ∃ b off, ad = ⟨b, off, none⟩ ∧ b < w.heap.size ∧ NdAtR w b (off + i * 5) y ∧ y.text.size ≤ maxLen ∧ y.num ≤ 9223372036854775807) (fun i hi => by
      obtain ⟨cs', h1, h2⟩ := hx i (by omega)
      obtain ⟨_, hlen, hc⟩ := World.cells?_some h1
      obtain ⟨v, hv⟩ : ∃ v, cs'[0]? = some v := ⟨cs'[0]'(by omega), List.getElem?_eq_getElem _⟩
      obtain ⟨cz, hz1, hz2⟩ := hx 0 (by omega)
      obtain ⟨_, hzl, hzc⟩ := World.cells?_some hz1
      obtain ⟨b, off, rfl⟩ := spot_of (v := cz[0]'(by omega)) (by have := (hzc 0 (by omega)).trans (List.getElem?_eq_getElem (by omega)); simpa [Addr.add] using this)
      have hc0' := (hc 0 (by omega)).trans hv
      rw [add_lit'] at hc hc0'
      rw [add_lit'] at hc0'
      obtain ⟨y, hy, ht⟩ := NdAtR.of_trod (b := b) (o := off + i * 5) h2 (fun j hj => by rw [← hc j hj, add_lit'])
      exact ⟨y, b, off, rfl, lt_of_cell hc0', hy, ht⟩)
    refine ⟨(List.range n).map f, ⟨by simp, hl, hm, fun x hx => ?_, fun j hj => ?_⟩, fun x hx => ?_⟩
    · obtain ⟨i, hi, rfl⟩ := List.mem_map.1 hx
      obtain ⟨_, _, _, _, _, ht, _⟩ := hf i (by simpa using hi)
      exact ht
    · have hjn : j < n := by simpa using hj
      obtain ⟨b, off, rfl, hl', hy, _, _⟩ := hf j hjn
      exact ⟨b, off, rfl, hl', by simpa using hy⟩
    · obtain ⟨i, hi, rfl⟩ := List.mem_map.1 hx
      obtain ⟨_, _, _, _, _, _, ht⟩ := hf i (by simpa using hi)
      exact ht

theorem StsR.of_trod {fuel : Nat} {x : DataW H × List MemPlace} {a : Option Addr} {n c : Nat} (h : DataW.trod enc Tryz.prog w 0 (fun _ => true) held fuel 23 [.slice a n c] = some x) : ∃ L, StsR w a n c L := by
  rcases open_slice Tryz.underlying23 h with ⟨hcs, _⟩ | ⟨ad, len, cap, m, k, D, Pl, hcs, _, hl, hm, hmm, _, hx⟩
  · simp only [List.cons.injEq, Value.slice.injEq, and_true] at hcs
    obtain ⟨rfl, rfl, rfl⟩ := hcs
    exact ⟨[], rfl, Nat.le_refl _, Nat.zero_le _, fun x hx => (by cases hx), fun j hj => absurd hj (by simp)⟩
  · simp only [List.cons.injEq, Value.slice.injEq, and_true] at hcs
    obtain ⟨rfl, rfl, rfl⟩ := hcs
    simp only [if_true] at hmm
    rw [cellsSt] at hx
    obtain ⟨f, hf⟩ := choose_lt (α := St) (n := n) (p := fun i y => ∃ b off, ad = ⟨b, off, none⟩ ∧ b < w.heap.size ∧ (w.cell? ⟨b, off + i * 4, none⟩ = some (.int .i64 y.kind) ∧ w.cell? ⟨b, off + i * 4 + 1, none⟩ = some (.string y.name) ∧ w.cell? ⟨b, off + i * 4 + 2, none⟩ = some (.int .i64 y.cond) ∧ w.cell? ⟨b, off + i * 4 + 3, none⟩ = some (.int .i64 y.grant)) ∧ y.name.size ≤ maxLen) (fun i hi => by
      obtain ⟨cs', h1, h2⟩ := hx i (by omega)
      obtain ⟨_, hlen, hc⟩ := World.cells?_some h1
      obtain ⟨v, hv⟩ : ∃ v, cs'[0]? = some v := ⟨cs'[0]'(by omega), List.getElem?_eq_getElem _⟩
      obtain ⟨cz, hz1, hz2⟩ := hx 0 (by omega)
      obtain ⟨_, hzl, hzc⟩ := World.cells?_some hz1
      obtain ⟨b, off, rfl⟩ := spot_of (v := cz[0]'(by omega)) (by have := (hzc 0 (by omega)).trans (List.getElem?_eq_getElem (by omega)); simpa [Addr.add] using this)
      have hc0' := (hc 0 (by omega)).trans hv
      rw [add_lit'] at hc hc0'
      rw [add_lit'] at hc0'
      have hc2 : ∀ j, j < 4 → w.cell? ⟨b, off + i * 4 + j, none⟩ = cs'[j]? := fun j hj => by rw [← hc j hj, add_lit']
      obtain ⟨xs, n', _, _, hcl, hxl, hxx⟩ := DataW.trod_struct Tryz.underlying62 h2
      match cs', hlen with
      | [x0, x1, x2, x3], _ =>
        have get : ∀ i, i < 4 → ∃ y, xs[i]? = some y := fun i hi => ⟨xs[i]'(by simp at hxl; omega), List.getElem?_eq_getElem _⟩
        obtain ⟨y0, e0⟩ := get 0 (by omega)
        obtain ⟨y1, e1⟩ := get 1 (by omega)
        obtain ⟨y2, e2⟩ := get 2 (by omega)
        obtain ⟨y3, e3⟩ := get 3 (by omega)
        have f0 : DataW.trod enc Tryz.prog w 0 (fun _ => true) held n' 3 [x0] = some y0 := by
          have := (hxx 0 _ rfl).trans e0
          simpa [cellsInt] using this
        have f1 : DataW.trod enc Tryz.prog w 0 (fun _ => true) held n' 9 [x1] = some y1 := by
          have := (hxx 1 _ rfl).trans e1
          simpa [cellsStr] using this
        have f2 : DataW.trod enc Tryz.prog w 0 (fun _ => true) held n' 3 [x2] = some y2 := by
          have := (hxx 2 _ rfl).trans e2
          simpa [cellsInt] using this
        have f3 : DataW.trod enc Tryz.prog w 0 (fun _ => true) held n' 3 [x3] = some y3 := by
          have := (hxx 3 _ rfl).trans e3
          simpa [cellsInt] using this
        obtain ⟨kind, k0, _, _⟩ := DataW.trod_int Tryz.underlying3 f0
        obtain ⟨name, k1, _, htx⟩ := DataW.trod_string Tryz.underlying9 f1
        obtain ⟨cond, k2, _, _⟩ := DataW.trod_int Tryz.underlying3 f2
        obtain ⟨grant, k3, _, _⟩ := DataW.trod_int Tryz.underlying3 f3
        simp only [List.cons.injEq, and_true] at k0 k1 k2 k3
        subst k0 k1 k2 k3
        exact ⟨⟨kind, name, cond, grant⟩, b, off, rfl, lt_of_cell hc0', ⟨hc2 0 (by omega), hc2 1 (by omega), hc2 2 (by omega), hc2 3 (by omega)⟩, htx⟩)
    refine ⟨(List.range n).map f, by simp, hl, hm, fun x hx => ?_, fun j hj => ?_⟩
    · obtain ⟨i, hi, rfl⟩ := List.mem_map.1 hx
      obtain ⟨_, _, _, _, _, ht⟩ := hf i (by simpa using hi)
      exact ht
    · have hjn : j < n := by simpa using hj
      obtain ⟨b, off, rfl, hl', hy, _⟩ := hf j hjn
      exact ⟨b, off, rfl, hl', by simpa using hy⟩

theorem open_typ {r : Reach} {b0 : Nat} {v : Value} {d : DataW H} {p : List MemPlace}
    (hv : Value.okWide Tryz.prog w r b0 26 v) (h : DataW.Trod enc Tryz.prog w 0 (fun _ => true) held 26 v d p) :
    ∃ (a b e : Option Addr) (n c m d k f : Nat) (N : List Nd) (L : List St) (T : List Int), v = .agg #[.slice a n c, .slice b m d, .slice e k f] ∧ NdsR w a n c N ∧ StsR w b m d L ∧ IntsR w e k f T := by
  obtain ⟨cs, rfl, hsz⟩ := okWide_struct Tryz.underlying26 hv
  have hsz2 := hsz.trans cellsTyp
  obtain ⟨l⟩ := cs
  match l, hsz2 with
  | [x0, x1, x2], _ =>
    obtain ⟨fuel, hf⟩ := h
    obtain ⟨xs, n, _, _, _, hlen, hx⟩ := DataW.trod_struct Tryz.underlying26 hf
    have get : ∀ i, i < 3 → ∃ y, xs[i]? = some y := fun i hi => ⟨xs[i]'(by simp at hlen; omega), List.getElem?_eq_getElem _⟩
    obtain ⟨y0, e0⟩ := get 0 (by omega)
    obtain ⟨y1, e1⟩ := get 1 (by omega)
    obtain ⟨y2, e2⟩ := get 2 (by omega)
    have f0 : DataW.trod enc Tryz.prog w 0 (fun _ => true) held n 22 [x0] = some y0 := by
      have := (hx 0 _ rfl).trans e0
      simpa [Value.cells, cellsNdS] using this
    have f1 : DataW.trod enc Tryz.prog w 0 (fun _ => true) held n 23 [x1] = some y1 := by
      have := (hx 1 _ rfl).trans e1
      simpa [Value.cells, cellsStS] using this
    have f2 : DataW.trod enc Tryz.prog w 0 (fun _ => true) held n 24 [x2] = some y2 := by
      have := (hx 2 _ rfl).trans e2
      simpa [Value.cells, cellsIS] using this
    obtain ⟨a1, n1, c1, rfl⟩ := slice_form Tryz.underlying22 f0
    obtain ⟨a2, n2, c2, rfl⟩ := slice_form Tryz.underlying23 f1
    obtain ⟨a3, n3, c3, rfl⟩ := slice_form Tryz.underlying24 f2
    obtain ⟨N, hN, _⟩ := NdsR.of_trod f0
    obtain ⟨L, hL⟩ := StsR.of_trod f1
    obtain ⟨I, hI⟩ := IntsR.of_trod f2
    exact ⟨a1, a2, a3, n1, c1, n2, c2, n3, c3, N, L, I, rfl, hN, hL, hI⟩

end

end Go.Proofs.YtjapdeehnfoonaaGreatDoor

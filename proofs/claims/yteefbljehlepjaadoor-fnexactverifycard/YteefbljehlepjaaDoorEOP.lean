/-
  Codes among the arguments: from the row's reading to memory. Own work.
-/
import Derived.Test.YteefbljehlepjaaDoorEZ0
import Derived.Test.YteefbljehlepjaaDoorOpen
import Derived.Deep.Slices
import Derived.OpenShut
namespace Go.Proofs.YteefbljehlepjaaDoor
open Go.ChangeShapes Go.WideShapes Go.RowKit Go.Deep
set_option linter.unusedVariables false
set_option maxRecDepth 100000

theorem cellsStr : Tryd.prog.cellsOf 9 = 1 := by kernel_rfl
theorem cellsI64 : Tryd.prog.cellsOf 2 = 1 := by kernel_rfl
theorem cellsInt : Tryd.prog.cellsOf 3 = 1 := by kernel_rfl
theorem cellsSS : Tryd.prog.cellsOf 58 = 1 := by kernel_rfl
theorem cellsVl : Tryd.prog.cellsOf 60 = 4 := by kernel_rfl
theorem cellsIn : Tryd.prog.cellsOf 72 = 2 := by kernel_rfl
theorem cellsVlS : Tryd.prog.cellsOf 22 = 1 := by kernel_rfl
theorem cellsInS : Tryd.prog.cellsOf 23 = 1 := by kernel_rfl
theorem cellsCode : Tryd.prog.cellsOf 25 = 3 := by kernel_rfl

instance : Inhabited Vl := ⟨⟨0, 0, ⟨#[]⟩, []⟩⟩
instance : Inhabited Is1 := ⟨⟨0, 0⟩⟩

section
variable {H : Type} {enc : TypeId × Value → H} {w : World} {held : Bool}

theorem add_lit' (b off j : Nat) : (⟨b, off, none⟩ : Addr).add j = ⟨b, off + j, none⟩ := by
  by_cases e : j = 0 <;> simp [Addr.add, e]

theorem slice_form {t e : TypeId} {fuel : Nat} {v : Value} {x : DataW H × List MemPlace} (ht : Tryd.prog.underlying t = some (.slice e)) (h : DataW.trod enc Tryd.prog w 0 (fun _ => true) held fuel t [v] = some x) : ∃ a l c, v = .slice a l c := by
  rcases open_slice ht h with ⟨hcs, _⟩ | ⟨_, _, _, _, _, _, _, hcs, _⟩
  · simp only [List.cons.injEq, and_true] at hcs; exact ⟨_, _, _, hcs⟩
  · simp only [List.cons.injEq, and_true] at hcs; exact ⟨_, _, _, hcs⟩

theorem spot_of {a : Addr} {v : Value} (h : w.cell? (a.add 0) = some v) : ∃ b off, a = ⟨b, off, none⟩ := by
  have hs := World.cell?_spot h
  obtain ⟨b, off, spot⟩ := a
  simp [Addr.add] at hs
  subst hs
  exact ⟨b, off, rfl⟩

theorem VlAt.of_trod {fuel b o : Nat} {cs : List Value} {x : DataW H × List MemPlace} (h : DataW.trod enc Tryd.prog w 0 (fun _ => true) held fuel 60 cs = some x) (hc : ∀ i, i < 4 → w.cell? ⟨b, o + i, none⟩ = cs[i]?) : ∃ y : Vl, VlAt w b o y ∧ y.text.size ≤ maxLen := by
  obtain ⟨xs, n, _, _, hcl, hlen, hx⟩ := DataW.trod_struct Tryd.underlying60 h
  rw [cellsVl] at hcl
  match cs, hcl with
  | [x0, x1, x2, x3], _ =>
    have get : ∀ i, i < 4 → ∃ y, xs[i]? = some y := fun i hi => ⟨xs[i]'(by simp at hlen; omega), List.getElem?_eq_getElem _⟩
    obtain ⟨y0, e0⟩ := get 0 (by omega)
    obtain ⟨y1, e1⟩ := get 1 (by omega)
    obtain ⟨y2, e2⟩ := get 2 (by omega)
    obtain ⟨y3, e3⟩ := get 3 (by omega)
    have f0 : DataW.trod enc Tryd.prog w 0 (fun _ => true) held n 3 [x0] = some y0 := by
      have := (hx 0 _ rfl).trans e0
      simpa [cellsInt] using this
    have f1 : DataW.trod enc Tryd.prog w 0 (fun _ => true) held n 2 [x1] = some y1 := by
      have := (hx 1 _ rfl).trans e1
      simpa [cellsI64] using this
    have f2 : DataW.trod enc Tryd.prog w 0 (fun _ => true) held n 9 [x2] = some y2 := by
      have := (hx 2 _ rfl).trans e2
      simpa [cellsStr] using this
    have f3 : DataW.trod enc Tryd.prog w 0 (fun _ => true) held n 58 [x3] = some y3 := by
      have := (hx 3 _ rfl).trans e3
      simpa [cellsSS] using this
    obtain ⟨op, k0, _, _⟩ := DataW.trod_int Tryd.underlying3 f0
    obtain ⟨num, k1, _, _⟩ := DataW.trod_int Tryd.underlying2 f1
    obtain ⟨text, k2, _, htx⟩ := DataW.trod_string Tryd.underlying9 f2
    simp only [List.cons.injEq, and_true] at k0 k1 k2
    subst k0 k1 k2
    obtain ⟨an, nn, cn, rfl⟩ := slice_form Tryd.underlying58 f3
    obtain ⟨names, hN⟩ := Strs.of_trod Tryd.underlying58 Tryd.underlying9 cellsStr f3
    exact ⟨⟨op, num, text, names⟩, ⟨an, nn, cn, hc 0 (by omega), hc 1 (by omega), hc 2 (by omega), hc 3 (by omega), hN⟩, htx⟩

theorem VlsR.of_trod {fuel : Nat} {x : DataW H × List MemPlace} {a : Option Addr} {n c : Nat} (h : DataW.trod enc Tryd.prog w 0 (fun _ => true) held fuel 22 [.slice a n c] = some x) : ∃ L, VlsR w a n c L := by
  rcases open_slice Tryd.underlying22 h with ⟨hcs, _⟩ | ⟨ad, len, cap, m, k, D, Pl, hcs, _, hl, hm, hmm, _, hx⟩
  · simp only [List.cons.injEq, Value.slice.injEq, and_true] at hcs
    obtain ⟨rfl, rfl, rfl⟩ := hcs
    exact ⟨[], rfl, Nat.le_refl _, Nat.zero_le _, fun x hx => (by cases hx), fun j hj => absurd hj (by simp)⟩
  · simp only [List.cons.injEq, Value.slice.injEq, and_true] at hcs
    obtain ⟨rfl, rfl, rfl⟩ := hcs
    simp only [if_true] at hmm
    rw [cellsVl] at hx
    obtain ⟨f, hf⟩ := choose_lt (α := Vl) (n := n) (p := fun i y => ∃ b off, ad = ⟨b, off, none⟩ ∧ b < w.heap.size ∧ VlAt w b (off + i * 4) y ∧ y.text.size ≤ maxLen) (fun i hi => by
      obtain ⟨cs', h1, h2⟩ := hx i (by omega)
      obtain ⟨_, hlen, hc⟩ := World.cells?_some h1
      obtain ⟨v, hv⟩ : ∃ v, cs'[0]? = some v := ⟨cs'[0]'(by omega), List.getElem?_eq_getElem _⟩
      obtain ⟨cz, hz1, hz2⟩ := hx 0 (by omega)
      obtain ⟨_, hzl, hzc⟩ := World.cells?_some hz1
      obtain ⟨b, off, rfl⟩ := spot_of (v := cz[0]'(by omega)) (by have := (hzc 0 (by omega)).trans (List.getElem?_eq_getElem (by omega)); simpa [Addr.add] using this)
      have hc0' := (hc 0 (by omega)).trans hv
      rw [add_lit'] at hc hc0'
      rw [add_lit'] at hc0'
      obtain ⟨y, hy, ht⟩ := VlAt.of_trod (b := b) (o := off + i * 4) h2 (fun j hj => by rw [← hc j hj, add_lit'])
      exact ⟨y, b, off, rfl, lt_of_cell hc0', hy, ht⟩)
    refine ⟨(List.range n).map f, by simp, hl, hm, fun x hx => ?_, fun j hj => ?_⟩
    · obtain ⟨i, hi, rfl⟩ := List.mem_map.1 hx
      obtain ⟨_, _, _, _, _, ht⟩ := hf i (by simpa using hi)
      exact ht
    · have hjn : j < n := by simpa using hj
      obtain ⟨b, off, rfl, hl', hy, _⟩ := hf j hjn
      exact ⟨b, off, rfl, hl', by simpa using hy⟩

theorem IssR.of_trod {fuel : Nat} {x : DataW H × List MemPlace} {a : Option Addr} {n c : Nat} (h : DataW.trod enc Tryd.prog w 0 (fun _ => true) held fuel 23 [.slice a n c] = some x) : ∃ L, IssR w a n c L := by
  rcases open_slice Tryd.underlying23 h with ⟨hcs, _⟩ | ⟨ad, len, cap, m, k, D, Pl, hcs, _, hl, hm, hmm, _, hx⟩
  · simp only [List.cons.injEq, Value.slice.injEq, and_true] at hcs
    obtain ⟨rfl, rfl, rfl⟩ := hcs
    exact ⟨[], rfl, Nat.le_refl _, Nat.zero_le _, fun j hj => absurd hj (by simp)⟩
  · simp only [List.cons.injEq, Value.slice.injEq, and_true] at hcs
    obtain ⟨rfl, rfl, rfl⟩ := hcs
    simp only [if_true] at hmm
    rw [cellsIn] at hx
    obtain ⟨f, hf⟩ := choose_lt (α := Is1) (n := n) (p := fun i y => ∃ b off, ad = ⟨b, off, none⟩ ∧ b < w.heap.size ∧ (w.cell? ⟨b, off + i * 2, none⟩ = some (.int .i64 y.op) ∧ w.cell? ⟨b, off + i * 2 + 1, none⟩ = some (.int .i64 y.arg))) (fun i hi => by
      obtain ⟨cs', h1, h2⟩ := hx i (by omega)
      obtain ⟨_, hlen, hc⟩ := World.cells?_some h1
      obtain ⟨v, hv⟩ : ∃ v, cs'[0]? = some v := ⟨cs'[0]'(by omega), List.getElem?_eq_getElem _⟩
      obtain ⟨cz, hz1, hz2⟩ := hx 0 (by omega)
      obtain ⟨_, hzl, hzc⟩ := World.cells?_some hz1
      obtain ⟨b, off, rfl⟩ := spot_of (v := cz[0]'(by omega)) (by have := (hzc 0 (by omega)).trans (List.getElem?_eq_getElem (by omega)); simpa [Addr.add] using this)
      have hc0' := (hc 0 (by omega)).trans hv
      rw [add_lit'] at hc hc0'
      rw [add_lit'] at hc0'
      have hc2 : ∀ j, j < 2 → w.cell? ⟨b, off + i * 2 + j, none⟩ = cs'[j]? := fun j hj => by rw [← hc j hj, add_lit']
      obtain ⟨xs, n', _, _, hcl, hxl, hxx⟩ := DataW.trod_struct Tryd.underlying72 h2
      match cs', hlen with
      | [x0, x1], _ =>
        have get : ∀ i, i < 2 → ∃ y, xs[i]? = some y := fun i hi => ⟨xs[i]'(by simp at hxl; omega), List.getElem?_eq_getElem _⟩
        obtain ⟨y0, e0⟩ := get 0 (by omega)
        obtain ⟨y1, e1⟩ := get 1 (by omega)
        have f0 : DataW.trod enc Tryd.prog w 0 (fun _ => true) held n' 3 [x0] = some y0 := by
          have := (hxx 0 _ rfl).trans e0
          simpa [cellsInt] using this
        have f1 : DataW.trod enc Tryd.prog w 0 (fun _ => true) held n' 3 [x1] = some y1 := by
          have := (hxx 1 _ rfl).trans e1
          simpa [cellsInt] using this
        obtain ⟨op, k0, _, _⟩ := DataW.trod_int Tryd.underlying3 f0
        obtain ⟨arg, k1, _, _⟩ := DataW.trod_int Tryd.underlying3 f1
        simp only [List.cons.injEq, and_true] at k0 k1
        subst k0 k1
        exact ⟨⟨op, arg⟩, b, off, rfl, lt_of_cell hc0', ⟨hc2 0 (by omega), hc2 1 (by omega)⟩⟩)
    refine ⟨(List.range n).map f, by simp, hl, hm, fun j hj => ?_⟩
    have hjn : j < n := by simpa using hj
    obtain ⟨b, off, rfl, hl', hy⟩ := hf j hjn
    exact ⟨b, off, rfl, hl', by simpa using hy⟩

theorem open_code {r : Reach} {b0 : Nat} {v : Value} {d : DataW H} {p : List MemPlace}
    (hv : Value.okWide Tryd.prog w r b0 25 v) (h : DataW.Trod enc Tryd.prog w 0 (fun _ => true) held 25 v d p) :
    ∃ (a b : Option Addr) (n c m d : Nat) (s : Int) (N : List Vl) (L : List Is1), v = .agg #[.slice a n c, .int .i64 s, .slice b m d] ∧ VlsR w a n c N ∧ IssR w b m d L := by
  obtain ⟨cs, rfl, hsz⟩ := okWide_struct Tryd.underlying25 hv
  have hsz2 := hsz.trans cellsCode
  obtain ⟨l⟩ := cs
  match l, hsz2 with
  | [x0, x1, x2], _ =>
    obtain ⟨fuel, hf⟩ := h
    obtain ⟨xs, n, _, _, _, hlen, hx⟩ := DataW.trod_struct Tryd.underlying25 hf
    have get : ∀ i, i < 3 → ∃ y, xs[i]? = some y := fun i hi => ⟨xs[i]'(by simp at hlen; omega), List.getElem?_eq_getElem _⟩
    obtain ⟨y0, e0⟩ := get 0 (by omega)
    obtain ⟨y1, e1⟩ := get 1 (by omega)
    obtain ⟨y2, e2⟩ := get 2 (by omega)
    have f0 : DataW.trod enc Tryd.prog w 0 (fun _ => true) held n 22 [x0] = some y0 := by
      have := (hx 0 _ rfl).trans e0
      simpa [Value.cells, cellsVlS] using this
    have f1 : DataW.trod enc Tryd.prog w 0 (fun _ => true) held n 3 [x1] = some y1 := by
      have := (hx 1 _ rfl).trans e1
      simpa [Value.cells, cellsInt] using this
    have f2 : DataW.trod enc Tryd.prog w 0 (fun _ => true) held n 23 [x2] = some y2 := by
      have := (hx 2 _ rfl).trans e2
      simpa [Value.cells, cellsInS] using this
    obtain ⟨a1, n1, c1, rfl⟩ := slice_form Tryd.underlying22 f0
    obtain ⟨s, k1, _, _⟩ := DataW.trod_int Tryd.underlying3 f1
    obtain ⟨a2, n2, c2, rfl⟩ := slice_form Tryd.underlying23 f2
    simp only [List.cons.injEq, and_true] at k1
    subst k1
    obtain ⟨N, hN⟩ := VlsR.of_trod f0
    obtain ⟨L, hL⟩ := IssR.of_trod f2
    exact ⟨a1, a2, n1, c1, n2, c2, s, N, L, rfl, hN, hL⟩

end

end Go.Proofs.YteefbljehlepjaaDoor

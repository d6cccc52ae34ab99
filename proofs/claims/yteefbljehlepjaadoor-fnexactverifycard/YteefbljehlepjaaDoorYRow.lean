/-
  FnExactVerify: the row, and its card. Own work.
-/
import Derived.Test.YteefbljehlepjaaDoorYU
import Derived.Test.YteefbljehlepjaaDoorEOP
import Derived.Test.YteefbljehlepjaaDoorTie
import Derived.Test.YteefbljehlepjaaDoorCards
import Derived.WalkKit
import Derived.ProofKit
import Derived.OpenShut
import Derived.OpenVars
import Derived.LaidMore
import Derived.Stop.LaidErr
import Derived.Stop.Joined
import Derived.SevenTiedAt
import Derived.ChangeOld
import Derived.Below
namespace Go.Proofs.YteefbljehlepjaaDoor.fnExactVerifyDone
open Go.ChangeShapes Go.WideShapes Go.ChangeAt Go.RowKit
set_option linter.unusedVariables false
set_option maxRecDepth 100000

theorem own : ownKnob Tryd.prog.godebug = none := by kernel_rfl
theorem laidOut : laidOutB Tryd.prog = true := by kernel_rfl

abbrev laid3 : List (String × DataW Unit) := [("loop.example/s01308/impl.errType", Rows.laid_loop_example_s01308_impl_errType), ("loop.example/s01308/impl.attributes", Rows.laid_loop_example_s01308_impl_attributes), ("loop.example/s01308/impl.signatures", Rows.laid_loop_example_s01308_impl_signatures)]

theorem door_met (os : Os) (args : Array Value) : laidMetH Tryd.prog laid3 ((World.doorLaid Tryd.prog 61 os).forCall (fun _ _ => 0) ⟨#[], args, []⟩).memory :=
  laidMetH_of_parts3 (fuel := 8) (laidMet_of_run' 8 (by kernel_rfl) (by kernel_rfl)) (by kernel_rfl) (by kernel_rfl)

theorem laidMet_tail {P : Program} {x : String × DataW Unit} {l : List (String × DataW Unit)} {W : World} (h : laidMet P (x :: l) W) : laidMet P l W := by
  obtain ⟨ps, hl, hnd, hr⟩ := h
  obtain ⟨n, d⟩ := x
  obtain ⟨g, t, cs, f, p, q, h1, h2, h3, h4, h5, rfl⟩ := hl
  exact ⟨q, h5, (List.nodup_append.1 hnd).2.1, fun b off hm => hr b off (List.mem_append_right _ hm)⟩

theorem lt_of_var {P : Program} {W : World} {n : String} {g : Nat} {cs : Array Value} (hg : P.globalNamed n = some g) (h : W.var? P n = some cs) : g < W.heap.size := by
  rcases Nat.lt_or_ge g W.heap.size with k | k
  · exact k
  · unfold World.var? at h
    rw [hg] at h
    simp [Array.getElem?_eq_none k] at h

theorem row66 : ∀ u, Tryd.prog.typeName? 3 u = some "*errors.errorString" → u = 111 :=
  typeName_ptr_named (nm := "errors.errorString") (by kernel_rfl) (by kernel_rfl) (by decide)
theorem cells91 : Tryd.prog.cellsOf 128 = 1 := by kernel_rfl
theorem cells9 : Tryd.prog.cellsOf 9 = 1 := by kernel_rfl

/-- one sentinel of the list -/
theorem laid_one {W : World} {n : String} {text : List UInt8} {g : Nat} {cs : Array Value} {f : Nat} {p : List MemPlace} {ps : List MemPlace} (hg : Tryd.prog.globalNamed n = some g) (hv : W.var? Tryd.prog n = some cs)
    (hd : DataW.trod (fun _ => ()) Tryd.prog W 0 (fun _ => true) false f 94 cs.toList = some (.iface "*errors.errorString" (.ptr (.agg [.lit (.string text)])), p))
    (hsub : ∀ x ∈ MemPlace.row ⟨g, 0, none⟩ cs.size ++ p, x ∈ ps) (hrows : ∀ b off, MemPlace.cell b off ∈ ps → (∃ c t, W.heap[b]? = some (.cells c t (0, 0))) ∧ ∀ u v, W.cell? ⟨b, off, none⟩ = some (.iface u v) → Value.okWide Tryd.prog W .any 0 u v) :
    ∃ a, cs = #[.iface 111 (.pointer (some a))] ∧ p = MemPlace.row a 1 ∧ (∃ c t, W.heap[a.block]? = some (.cells c t (0, 0))) ∧ W.cell? ⟨g, 0, none⟩ = some (.iface 111 (.pointer (some a))) := by
  obtain ⟨l⟩ := cs
  have ok : ∀ u v, l = [.iface u v] → Value.okWide Tryd.prog W .any 0 u v := fun u v e => by
    subst e
    exact (hrows g 0 (hsub _ (by simp [MemPlace.row]))).2 u v (by simpa using World.var?_cell hg hv 0)
  obtain ⟨a, s, rfl, hc, _, _, rfl⟩ := errorString_of_trod Tryd.underlying94 row66 Tryd.underlying111 Tryd.underlying128 rfl rfl Tryd.underlying9 cells91 cells9 hd ok
  exact ⟨a, rfl, rfl, (hrows a.block a.off (hsub _ (by simp [MemPlace.row]))).1, by simpa using World.var?_cell hg hv 0⟩

/-- the first of the list, a sentinel -/
theorem laid_err {W : World} {n : String} {text : List UInt8} {l : List (String × DataW Unit)} {g : Nat} (h : laidMet Tryd.prog ((n, .iface "*errors.errorString" (.ptr (.agg [.lit (.string text)]))) :: l) W) (hg : Tryd.prog.globalNamed n = some g) (ht : (Tryd.prog.globals[g]?).map (·.type) = some 94) :
    ∃ a, W.var? Tryd.prog n = some #[.iface 111 (.pointer (some a))] := by
  obtain ⟨ps, hl, hnd, hr⟩ := h
  obtain ⟨g', t, cs, f, p, q, h1, h2, h3, h4, h5, rfl⟩ := hl
  obtain rfl := Option.some.inj (hg.symm.trans h1)
  obtain rfl := Option.some.inj (ht.symm.trans h2)
  obtain ⟨a, rfl, _⟩ := laid_one hg h3 h4 (fun x hx => List.mem_append_left _ hx) hr
  exact ⟨a, h3⟩

theorem g_errType : Tryd.prog.globalNamed "loop.example/s01308/impl.errType" = some 1 := by kernel_rfl
theorem t_errType : (Tryd.prog.globals[1]?).map (·.type) = some 94 := by kernel_rfl

theorem gSig : Tryd.prog.globalNamed "loop.example/s01308/impl.signatures" = some 2 := by kernel_rfl
theorem tSig : (Tryd.prog.globals[2]?).map (·.type) = some 110 := by kernel_rfl
theorem cellsSig : Tryd.prog.cellsOf 109 = 4 := by kernel_rfl
theorem cellsSigs : Tryd.prog.cellsOf 110 = 68 := by kernel_rfl
theorem gAtt : Tryd.prog.globalNamed "loop.example/s01308/impl.attributes" = some 0 := by kernel_rfl
theorem tAtt : (Tryd.prog.globals[0]?).map (·.type) = some 107 := by kernel_rfl
theorem cellsAtt : Tryd.prog.cellsOf 106 = 2 := by kernel_rfl
theorem cellsAtts : Tryd.prog.cellsOf 107 = 12 := by kernel_rfl

/-- a signature's cells, by its datum -/
theorem sig_cells {H : Type} {enc : TypeId × Value → H} {w : World} {spare : Nat → Bool} {held : Bool} {fuel : Nat} {l : List Value} {x0 x1 x2 x3 : Int} {p : List MemPlace}
    (h : DataW.trod enc Tryd.prog w 0 spare held fuel 109 l = some (.agg [.lit (.int .i64 x0), .lit (.int .i64 x1), .lit (.int .i64 x2), .lit (.int .i64 x3)], p)) : l = [.int .i64 x0, .int .i64 x1, .int .i64 x2, .int .i64 x3] := by
  obtain ⟨xs, n, _, hd, hcl, hlen, hx⟩ := DataW.trod_struct Tryd.underlying109 h
  rw [cellsSig] at hcl
  match l, hcl with
  | [c0, c1, c2, c3], _ =>
    have get : ∀ i, i < 4 → ∃ y, xs[i]? = some y := fun i hi => ⟨xs[i]'(by simp at hlen; omega), List.getElem?_eq_getElem _⟩
    obtain ⟨y0, e0⟩ := get 0 (by omega)
    obtain ⟨y1, e1⟩ := get 1 (by omega)
    obtain ⟨y2, e2⟩ := get 2 (by omega)
    obtain ⟨y3, e3⟩ := get 3 (by omega)
    have f0 : DataW.trod enc Tryd.prog w 0 spare held n 3 [c0] = some y0 := by
      have := (hx 0 _ rfl).trans e0
      simpa [cellsInt] using this
    have f1 : DataW.trod enc Tryd.prog w 0 spare held n 3 [c1] = some y1 := by
      have := (hx 1 _ rfl).trans e1
      simpa [cellsInt] using this
    have f2 : DataW.trod enc Tryd.prog w 0 spare held n 3 [c2] = some y2 := by
      have := (hx 2 _ rfl).trans e2
      simpa [cellsInt] using this
    have f3 : DataW.trod enc Tryd.prog w 0 spare held n 3 [c3] = some y3 := by
      have := (hx 3 _ rfl).trans e3
      simpa [cellsInt] using this
    obtain ⟨a0, k0, r0, _⟩ := DataW.trod_int Tryd.underlying3 f0
    obtain ⟨a1, k1, r1, _⟩ := DataW.trod_int Tryd.underlying3 f1
    obtain ⟨a2, k2, r2, _⟩ := DataW.trod_int Tryd.underlying3 f2
    obtain ⟨a3, k3, r3, _⟩ := DataW.trod_int Tryd.underlying3 f3
    have hm : xs.map (·.1) = [.lit (.int .i64 x0), .lit (.int .i64 x1), .lit (.int .i64 x2), .lit (.int .i64 x3)] := by
      have := congrArg Prod.fst hd
      simpa using this.symm
    have g0 : (xs.map (·.1))[0]? = some y0.1 := by rw [List.getElem?_map, e0]; rfl
    have g1 : (xs.map (·.1))[1]? = some y1.1 := by rw [List.getElem?_map, e1]; rfl
    have g2 : (xs.map (·.1))[2]? = some y2.1 := by rw [List.getElem?_map, e2]; rfl
    have g3 : (xs.map (·.1))[3]? = some y3.1 := by rw [List.getElem?_map, e3]; rfl
    rw [hm] at g0 g1 g2 g3
    rw [r0] at g0
    rw [r1] at g1
    rw [r2] at g2
    rw [r3] at g3
    simp only [List.cons.injEq, and_true] at k0 k1 k2 k3
    simp at g0 g1 g2 g3
    subst g0 g1 g2 g3
    rw [k0, k1, k2, k3]

theorem att_cells {H : Type} {enc : TypeId × Value → H} {w : World} {spare : Nat → Bool} {held : Bool} {fuel : Nat} {l : List Value} {y : Int} {s : List UInt8} {p : List MemPlace}
    (h : DataW.trod enc Tryd.prog w 0 spare held fuel 106 l = some (.agg [.lit (.string s), .lit (.int .i64 y)], p)) : l = [.string ⟨s.toArray⟩, .int .i64 y] := by
  obtain ⟨xs, n, _, hd, hcl, hlen, hx⟩ := DataW.trod_struct Tryd.underlying106 h
  rw [cellsAtt] at hcl
  match l, hcl with
  | [c0, c1], _ =>
    have get : ∀ i, i < 2 → ∃ y, xs[i]? = some y := fun i hi => ⟨xs[i]'(by simp at hlen; omega), List.getElem?_eq_getElem _⟩
    obtain ⟨y0, e0⟩ := get 0 (by omega)
    obtain ⟨y1, e1⟩ := get 1 (by omega)
    have f0 : DataW.trod enc Tryd.prog w 0 spare held n 9 [c0] = some y0 := by
      have := (hx 0 _ rfl).trans e0
      simpa [cellsStr] using this
    have f1 : DataW.trod enc Tryd.prog w 0 spare held n 3 [c1] = some y1 := by
      have := (hx 1 _ rfl).trans e1
      simpa [cellsInt] using this
    obtain ⟨a0, k0, r0, _⟩ := DataW.trod_string Tryd.underlying9 f0
    obtain ⟨a1, k1, r1, _⟩ := DataW.trod_int Tryd.underlying3 f1
    have hm : xs.map (·.1) = [.lit (.string s), .lit (.int .i64 y)] := by
      have := congrArg Prod.fst hd
      simpa using this.symm
    have g0 : (xs.map (·.1))[0]? = some y0.1 := by rw [List.getElem?_map, e0]; rfl
    have g1 : (xs.map (·.1))[1]? = some y1.1 := by rw [List.getElem?_map, e1]; rfl
    rw [hm] at g0 g1
    rw [r0] at g0
    rw [r1] at g1
    simp only [List.cons.injEq, and_true] at k0 k1
    simp at g0 g1
    subst g1
    rw [k0, k1, g0]

def sigA (i : Nat) : Int × Int × Int × Int := sigs.getD i (0, 0, 0, 0)

def attA (i : Nat) : ByteArray × Int := match i with | 0 => (⟨#[99, 108, 105, 101, 110, 116]⟩, 3) | 1 => (⟨#[117, 115, 101, 114]⟩, 3) | 2 => (⟨#[108, 101, 118, 101, 108]⟩, 2) | 3 => (⟨#[110, 111, 119]⟩, 2) | 4 => (⟨#[97, 115, 107, 101, 100]⟩, 4) | _ => (⟨#[97, 103, 114, 101, 101, 100]⟩, 4)

theorem attV_row : ∀ k, k < 6 → attV.extract (k * 2) (k * 2 + 2) = #[.string (attA k).1, .int .i64 (attA k).2]
  | 0, _ | 1, _ | 2, _ | 3, _ | 4, _ | 5, _ => rfl
  | n + 6, h => absurd h (by omega)

theorem sig_at : ∀ i, i < 17 → ∃ R : List (DataW Unit), Rows.laid_loop_example_s01308_impl_signatures = .agg R ∧ R[i]? = some (.agg [.lit (.int .i64 (sigA i).1), .lit (.int .i64 (sigA i).2.1), .lit (.int .i64 (sigA i).2.2.1), .lit (.int .i64 (sigA i).2.2.2)])
  | 0, _ | 1, _ | 2, _ | 3, _ | 4, _ | 5, _ | 6, _ | 7, _ | 8, _ | 9, _ | 10, _ | 11, _ | 12, _ | 13, _ | 14, _ | 15, _ | 16, _ => ⟨_, rfl, rfl⟩
  | n + 17, h => absurd h (by omega)

theorem att_at : ∀ i, i < 6 → ∃ R : List (DataW Unit), Rows.laid_loop_example_s01308_impl_attributes = .agg R ∧ R[i]? = some (.agg [.lit (.string (attA i).1.data.toList), .lit (.int .i64 (attA i).2)])
  | 0, _ | 1, _ | 2, _ | 3, _ | 4, _ | 5, _ => ⟨_, rfl, rfl⟩
  | n + 6, h => absurd h (by omega)

theorem sig_of_laid {W : World} {l : List (String × DataW Unit)} (h : laidMet Tryd.prog (("loop.example/s01308/impl.signatures", Rows.laid_loop_example_s01308_impl_signatures) :: l) W) : 2 < W.heap.size ∧ ∀ k, W.cell? ⟨2, k, none⟩ = sigV[k]? := by
  obtain ⟨ps, ⟨g', t', cs, fuel, p, q, hg', ht', hvar, hd, _, _⟩, _⟩ := h
  obtain rfl := Option.some.inj (gSig.symm.trans hg')
  obtain rfl := Option.some.inj (tSig.symm.trans ht')
  obtain ⟨xs, m, _, hx, hcl, hlen, hel⟩ := DataW.trod_array Tryd.underlying110 hd
  rw [cellsSigs] at hcl
  rw [cellsSig] at hel
  have hrow : ∀ i, i < 17 → (cs.toList.drop (i * 4)).take 4 = [.int .i64 (sigA i).1, .int .i64 (sigA i).2.1, .int .i64 (sigA i).2.2.1, .int .i64 (sigA i).2.2.2] := fun i hi => by
    obtain ⟨R, hR, hRi⟩ := sig_at i hi
    have hm : xs.map (·.1) = R := by
      have := congrArg Prod.fst hx
      rw [hR] at this
      simpa using this.symm
    obtain ⟨y, hy⟩ : ∃ y, xs[i]? = some y := ⟨xs[i]'(by omega), List.getElem?_eq_getElem _⟩
    have h1 := (hel i hi).trans hy
    have h2 : (xs.map (·.1))[i]? = some y.1 := by rw [List.getElem?_map, hy]; rfl
    rw [hm, hRi] at h2
    have h3 : y = ((.agg [.lit (.int .i64 (sigA i).1), .lit (.int .i64 (sigA i).2.1), .lit (.int .i64 (sigA i).2.2.1), .lit (.int .i64 (sigA i).2.2.2)]), y.2) := Prod.ext (Option.some.inj h2).symm rfl
    rw [h3] at h1
    have := sig_cells h1
    rw [this]
  have hall : ∀ k : Nat, cs[k]? = sigV[k]? := fun k => by
    by_cases hk : k < 68
    · have hi : k / 4 < 17 := by omega
      have e1 := hrow (k / 4) hi
      have e2 := sigV_row (k / 4) hi
      have a1 : ((cs.toList.drop (k / 4 * 4)).take 4)[k % 4]? = cs[k]? := by
        rw [List.getElem?_take, if_pos (by omega), List.getElem?_drop, show k / 4 * 4 + k % 4 = k by omega, Array.getElem?_toList]
      have a2 : (sigV.extract (k / 4 * 4) (k / 4 * 4 + 4))[k % 4]? = sigV[k]? := by
        have hb : sigV.size = 68 := rfl
        rw [Array.getElem?_extract, if_pos (by rw [hb]; omega), show k / 4 * 4 + k % 4 = k by omega]
      rw [← a1, ← a2, e1, e2]
      simp [sigA]
    · have hb : sigV.size = 68 := rfl
      rw [Array.getElem?_eq_none (by rw [← Array.length_toList, hcl]; omega), Array.getElem?_eq_none (by rw [hb]; omega)]
  have hheap : ∃ t fr, W.heap[2]? = some (.cells cs t fr) := by
    simp only [World.var?, gSig, Option.bind_some] at hvar
    split at hvar
    · rename_i c t fr hb
      simp only [Option.some.injEq] at hvar
      subst hvar
      exact ⟨t, fr, hb⟩
    · cases hvar
  obtain ⟨t, fr, hb⟩ := hheap
  exact ⟨(Array.getElem?_eq_some_iff.1 hb).1, fun k => (cell_of_row W _ k cs t fr hb).trans (hall k)⟩

theorem att_of_laid {W : World} {l : List (String × DataW Unit)} (h : laidMet Tryd.prog (("loop.example/s01308/impl.attributes", Rows.laid_loop_example_s01308_impl_attributes) :: l) W) : 0 < W.heap.size ∧ ∀ k, W.cell? ⟨0, k, none⟩ = attV[k]? := by
  obtain ⟨ps, ⟨g', t', cs, fuel, p, q, hg', ht', hvar, hd, _, _⟩, _⟩ := h
  obtain rfl := Option.some.inj (gAtt.symm.trans hg')
  obtain rfl := Option.some.inj (tAtt.symm.trans ht')
  obtain ⟨xs, m, _, hx, hcl, hlen, hel⟩ := DataW.trod_array Tryd.underlying107 hd
  rw [cellsAtts] at hcl
  rw [cellsAtt] at hel
  have hrow : ∀ i, i < 6 → (cs.toList.drop (i * 2)).take 2 = [.string (attA i).1, .int .i64 (attA i).2] := fun i hi => by
    obtain ⟨R, hR, hRi⟩ := att_at i hi
    have hm : xs.map (·.1) = R := by
      have := congrArg Prod.fst hx
      rw [hR] at this
      simpa using this.symm
    obtain ⟨y, hy⟩ : ∃ y, xs[i]? = some y := ⟨xs[i]'(by omega), List.getElem?_eq_getElem _⟩
    have h1 := (hel i hi).trans hy
    have h2 : (xs.map (·.1))[i]? = some y.1 := by rw [List.getElem?_map, hy]; rfl
    rw [hm, hRi] at h2
    have h3 : y = ((.agg [.lit (.string (attA i).1.data.toList), .lit (.int .i64 (attA i).2)]), y.2) := Prod.ext (Option.some.inj h2).symm rfl
    rw [h3] at h1
    have := att_cells h1
    rw [this]
  have hall : ∀ k : Nat, cs[k]? = attV[k]? := fun k => by
    by_cases hk : k < 12
    · have hi : k / 2 < 6 := by omega
      have e1 := hrow (k / 2) hi
      have e2 := attV_row (k / 2) hi
      have a1 : ((cs.toList.drop (k / 2 * 2)).take 2)[k % 2]? = cs[k]? := by
        rw [List.getElem?_take, if_pos (by omega), List.getElem?_drop, show k / 2 * 2 + k % 2 = k by omega, Array.getElem?_toList]
      have a2 : (attV.extract (k / 2 * 2) (k / 2 * 2 + 2))[k % 2]? = attV[k]? := by
        have hb : attV.size = 12 := rfl
        rw [Array.getElem?_extract, if_pos (by rw [hb]; omega), show k / 2 * 2 + k % 2 = k by omega]
      rw [← a1, ← a2, e1, e2]
      simp
    · have hb : attV.size = 12 := rfl
      rw [Array.getElem?_eq_none (by rw [← Array.length_toList, hcl]; omega), Array.getElem?_eq_none (by rw [hb]; omega)]
  have hheap : ∃ t fr, W.heap[0]? = some (.cells cs t fr) := by
    simp only [World.var?, gAtt, Option.bind_some] at hvar
    split at hvar
    · rename_i c t fr hb
      simp only [Option.some.injEq] at hvar
      subst hvar
      exact ⟨t, fr, hb⟩
    · cases hvar
  obtain ⟨t, fr, hb⟩ := hheap
  exact ⟨(Array.getElem?_eq_some_iff.1 hb).1, fun k => (cell_of_row W _ k cs t fr hb).trans (hall k)⟩

theorem vok_of_laid {W : World} (h : laidMetH Tryd.prog laid3 W) : ∃ aT, Vok W aT := by
  rw [MakeChecks.laidMetH_plain _ _ _ (by kernel_rfl)] at h
  obtain ⟨aT, vT⟩ := laid_err h g_errType t_errType
  have h2 := laidMet_tail h
  obtain ⟨a1, a2⟩ := att_of_laid h2
  obtain ⟨s1, s2⟩ := sig_of_laid (laidMet_tail h2)
  exact ⟨aT, ⟨s1, s2, a1, a2, lt_of_var g_errType vT, by simpa using World.var?_cell g_errType vT 0⟩⟩

theorem three_vars {H : Type} {enc : TypeId × Value → H} {P : Program} {w : World} {spare : Nat → Bool} {n1 n2 n3 : String} : ∀ {gs : List (DataW H)} {ps : List MemPlace}, DataW.TrodVars enc P w spare [n1, n2, n3] gs ps → ∃ g1 g2 g3, gs = [g1, g2, g3]
  | [], _, h => by simp [DataW.TrodVars] at h
  | [_], _, h => by simp [DataW.TrodVars] at h
  | [_, _], _, h => by simp [DataW.TrodVars] at h
  | [g1, g2, g3], _, _ => ⟨g1, g2, g3, rfl⟩
  | _ :: _ :: _ :: _ :: _, _, h => by simp [DataW.TrodVars] at h

theorem lifted (os : Os) (started : os.Started) (H : Type) (enc : TypeId × Value → H) :
    ReturnsInHanded {} Tryd.checked os 3 .any (fun w args => (Rows.fnExactVerifySpec.pre enc Tryd.prog Tryd.f3 [] false w args ∧ laidMetH Tryd.prog laid3 w) ∧ sizedMet enc Tryd.prog Tryd.f3 (OpenSpec.ofChange Rows.fnExactVerifySpec) false w args)
      (Rows.fnExactVerifySpec.post enc Tryd.prog Tryd.f3 false true false false) := by
  refine returnsInHanded_of_change_and (C := Tryd.checked) (X := fun w _ => laidMetH Tryd.prog laid3 w) (fun _ _ _ hh h => h.of_heap hh) own started (by kernel_rfl) Tryd.func3
    (ChangeSpec.witness_shaped (enc := enc) (C := Tryd.checked) (os := os) (X := fun w _ => laidMetH Tryd.prog laid3 w) false (World.doorLaid Tryd.prog 61 os) #[.agg #[.slice none 0 0, .int .i64 0, .slice none 0 0]] 8 rfl (World.shaped_of_RefB (by kernel_rfl) (by kernel_rfl)) (by kernel_rfl) (by kernel_rfl) (by kernel_rfl) (door_met os _)) ?_
  intro W base args ds gs before hval0 hW _ _ hL _
  have hval : ∀ (j : Nat) t v, Tryd.f3.params[j]? = some t → args[j]? = some v → Value.okWide Tryd.prog W .any base t v := hval0
  have hW' := hW
  obtain ⟨p, q, hA0, hV0, rfl, hfz, hnd⟩ := hW
  have hA : DataW.TrodAll enc Tryd.prog W 0 (fun _ => true) true Tryd.f3.params.toList args.toList ds p := hA0
  have hV : DataW.TrodVars enc Tryd.prog W (fun _ => true) ["loop.example/s01308/impl.errType", "loop.example/s01308/impl.signatures", "loop.example/s01308/impl.attributes"] gs q := hV0
  rw [Tryd.params3] at hA hval
  obtain ⟨v0, vs0, d0, ds0, p0, q0, hargs, rfl, rfl, h0, r0⟩ := trodAll_cons hA
  obtain ⟨rfl, rfl, rfl⟩ := trodAll_nil r0
  obtain rfl : args = #[v0] := by cases args; simp_all
  have k0 := h0
  have lt0 : ∀ x ∈ p0, x.block < W.heap.size := by obtain ⟨m, hm⟩ := k0; exact DataW.trod_lt m _ _ _ hm
  obtain ⟨a, b, n, c, m, d, s, N, L, rfl, hN, hLs⟩ := open_code (hval 0 25 v0 rfl rfl) h0
  obtain ⟨aT, hvok⟩ := vok_of_laid hL
  obtain ⟨u1, u2, u3, rfl⟩ := three_vars hV
  clear hA0 hV0 hval0
  refine (fnExactVerify_walk a b n c m d s N L aT W hN hLs hvok).mono fun e W' ⟨he, bel⟩ => ?_
  subst he
  exact ⟨_, rfl, _, _, _, [], _, _, hW', trodAll_mk1 (shut_bool Tryd.underlying4 _), (trodAll_cons_mk (Below.trod laidOut (by kernel_rfl) (of_decide_eq_true (by kernel_rfl)) k0 bel lt0) trodAll_mk0), Below.trodVars laidOut bel (by kernel_rfl) hV, bel.frame _, fun h => by cases h⟩

theorem over : Rows.FnExactVerifySaid :=
  OpenClaim.holds_of_wide 3 Tryd.f3 rfl rfl rfl rfl rfl rfl rfl ⟨rfl, rfl, rfl, rfl, rfl⟩ rfl rfl rfl rfl rfl (by kernel_rfl) Tryd.func3 (by kernel_rfl)
    (of_decide_eq_true (by kernel_rfl)) (by unfold Func.isWrapper; first | (rw [if_pos (by decide +kernel)]; kernel_rfl) | (rw [if_neg (by decide +kernel)]; exact ⟨rfl, rfl⟩))
    (fun os started H enc _ => lifted os started H enc)

theorem card : Rows.FnExactVerifyCardSaid :=
  Claim7.holds_tied_plain_at .later [] [.sentinel, .data, .data] true (true, "77ecc42f3783b12a917c408811f7a717346b20b3361a22c559fd55b1ad90b11e") false
    over (fun _ h => by cases h) (by kernel_rfl) (fun _ h => by cases h) fnExactVerify_row_tie rfl ⟨rfl, rfl⟩ (by kernel_rfl) rfl
    (fun f fn hf hfn => by
      obtain rfl : f = 3 := Option.some.inj ((show Tryd.prog.funcNamed "loop.example/s01308/laws.FnExactVerify" = some 3 by kernel_rfl).symm.trans hf) |>.symm
      obtain rfl : fn = Tryd.f3 := (Option.some.inj (Tryd.func3.symm.trans hfn)).symm
      exact ⟨by kernel_rfl, fun j t ht => by
        rw [Tryd.params3] at ht
        have hm : t ∈ [25] := by simpa using Array.mem_of_getElem? ht
        have hall : ([25].all fun u => !Tryd.prog.wantsStandIn u) = true := by kernel_rfl
        exact (show Tryd.prog.wantsStandIn t = false by simpa using List.all_eq_true.1 hall t hm)⟩)
    (by kernel_rfl)

end Go.Proofs.YteefbljehlepjaaDoor.fnExactVerifyDone

namespace Go.Proofs.YteefbljehlepjaaDoor
theorem fnExactVerify_holds : Rows.FnExactVerifyCardSaid := fnExactVerifyDone.card
end Go.Proofs.YteefbljehlepjaaDoor

/-
  FnExactParse: the row, and its card (written by mkirow.py). Own work.
-/
import Derived.Test.YtcehablmloleaaaGreatDoorIC
import Derived.Test.YtcehablmloleaaaGreatDoorTie
import Derived.Test.YtcehablmloleaaaGreatDoorCards
import Derived.SevenTiedAt
import Derived.WalkKit
import Derived.ProofKit
import Derived.OpenShut
import Derived.OpenVars
import Derived.ShutString
import Derived.LaidMore
import Derived.LaidHandle
import Derived.Stop.LaidErr
import Derived.Stop.Joined
import Derived.ChangeOld
import Derived.Below
import Derived.WalkSmall
namespace Go.Proofs.YtcehablmloleaaaGreatDoor.fnExactParseDone
open Go.ChangeShapes Go.WideShapes Go.ChangeAt Go.RowKit
open Go.ChangeMaps (open_string shut_string)
set_option linter.unusedVariables false
set_option maxRecDepth 100000

theorem own : ownKnob Tryz.prog.godebug = none := by kernel_rfl
theorem laidOut : laidOutB Tryz.prog = true := by kernel_rfl
theorem cellsInt : Tryz.prog.cellsOf 3 = 1 := by kernel_rfl
theorem cellsStr : Tryz.prog.cellsOf 9 = 1 := by kernel_rfl

abbrev laid16 : List (String × DataW Unit) := [("math/bits.deBruijn32tab", Rows.laid_math_bits_deBruijn32tab), ("math/bits.deBruijn64tab", Rows.laid_math_bits_deBruijn64tab), ("internal/strconv.uint64pow10", Rows.laid_internal_strconv_uint64pow10), ("errors.errorType", Rows.laid_errors_errorType), ("strconv.ErrRange", Rows.laid_strconv_ErrRange), ("strconv.ErrSyntax", Rows.laid_strconv_ErrSyntax), ("loop.example/s01308/impl.errWidth", Rows.laid_loop_example_s01308_impl_errWidth), ("loop.example/s01308/impl.errSize", Rows.laid_loop_example_s01308_impl_errSize), ("loop.example/s01308/impl.errByte", Rows.laid_loop_example_s01308_impl_errByte), ("loop.example/s01308/impl.errToken", Rows.laid_loop_example_s01308_impl_errToken), ("loop.example/s01308/impl.errSyntax", Rows.laid_loop_example_s01308_impl_errSyntax), ("loop.example/s01308/impl.errDepth", Rows.laid_loop_example_s01308_impl_errDepth), ("loop.example/s01308/impl.errName", Rows.laid_loop_example_s01308_impl_errName), ("loop.example/s01308/impl.errAgain", Rows.laid_loop_example_s01308_impl_errAgain), ("loop.example/s01308/impl.errType", Rows.laid_loop_example_s01308_impl_errType), ("loop.example/s01308/impl.binaryOperators", Rows.laid_loop_example_s01308_impl_binaryOperators)]
abbrev plain15 : List (String × DataW Unit) := [("math/bits.deBruijn32tab", Rows.laid_math_bits_deBruijn32tab), ("math/bits.deBruijn64tab", Rows.laid_math_bits_deBruijn64tab), ("internal/strconv.uint64pow10", Rows.laid_internal_strconv_uint64pow10), ("strconv.ErrRange", Rows.laid_strconv_ErrRange), ("strconv.ErrSyntax", Rows.laid_strconv_ErrSyntax), ("loop.example/s01308/impl.errWidth", Rows.laid_loop_example_s01308_impl_errWidth), ("loop.example/s01308/impl.errSize", Rows.laid_loop_example_s01308_impl_errSize), ("loop.example/s01308/impl.errByte", Rows.laid_loop_example_s01308_impl_errByte), ("loop.example/s01308/impl.errToken", Rows.laid_loop_example_s01308_impl_errToken), ("loop.example/s01308/impl.errSyntax", Rows.laid_loop_example_s01308_impl_errSyntax), ("loop.example/s01308/impl.errDepth", Rows.laid_loop_example_s01308_impl_errDepth), ("loop.example/s01308/impl.errName", Rows.laid_loop_example_s01308_impl_errName), ("loop.example/s01308/impl.errAgain", Rows.laid_loop_example_s01308_impl_errAgain), ("loop.example/s01308/impl.errType", Rows.laid_loop_example_s01308_impl_errType), ("loop.example/s01308/impl.binaryOperators", Rows.laid_loop_example_s01308_impl_binaryOperators)]

/-- The door's own heap meets the condition. -/
theorem door_met (os : Os) (args : Array Value) : laidMetH Tryz.prog laid16 ((World.doorLaid Tryz.prog 261 os).forCall (fun _ _ => 0) ⟨#[], args, []⟩).memory :=
  laidMetH_of_parts3 (fuel := 8) (laidMet_of_run' 8 (by kernel_rfl) (by kernel_rfl)) (by kernel_rfl) (by kernel_rfl)

theorem laidMet_tail {P : Program} {x : String × DataW Unit} {l : List (String × DataW Unit)} {W : World} (h : laidMet P (x :: l) W) : laidMet P l W := by
  obtain ⟨ps, hl, hnd, hr⟩ := h
  obtain ⟨n, d⟩ := x
  obtain ⟨g, t, cs, f, p, q, h1, h2, h3, h4, h5, rfl⟩ := hl
  exact ⟨q, h5, (List.nodup_append.1 hnd).2.1, fun b off hm => hr b off (List.mem_append_right _ hm)⟩

theorem lt_of_var {P : Program} {W : World} {n : String} {g : Nat} {cs : Array Value} (hg : P.globalNamed n = some g) (h : W.var? P n = some cs) : g < W.heap.size := by
  rcases Nat.lt_or_ge g W.heap.size with k | k
  · exact k
  · unfold World.var? at h
    rw [hg] at h
    simp [Array.getElem?_eq_none k] at h

theorem laid_head {P : Program} {n : String} {d : DataW Unit} {l : List (String × DataW Unit)} {W : World} (h : laidMet P ((n, d) :: l) W) : ∃ cs, W.var? P n = some cs := by
  obtain ⟨ps, hl, _⟩ := h
  obtain ⟨g, t, cs, f, p, q, h1, h2, h3, h4, h5, rfl⟩ := hl
  exact ⟨cs, h3⟩

theorem row66 : ∀ u, Tryz.prog.typeName? 3 u = some "*errors.errorString" → u = 207 :=
  typeName_ptr_named (nm := "errors.errorString") (by kernel_rfl) (by kernel_rfl) (by decide)
theorem cells91 : Tryz.prog.cellsOf 209 = 1 := by kernel_rfl
theorem cells9 : Tryz.prog.cellsOf 9 = 1 := by kernel_rfl

/-- one sentinel of the list -/
theorem laid_one {W : World} {n : String} {text : List UInt8} {g : Nat} {cs : Array Value} {f : Nat} {p : List MemPlace} {ps : List MemPlace} (hg : Tryz.prog.globalNamed n = some g) (hv : W.var? Tryz.prog n = some cs)
    (hd : DataW.trod (fun _ => ()) Tryz.prog W 0 (fun _ => true) false f 55 cs.toList = some (.iface "*errors.errorString" (.ptr (.agg [.lit (.string text)])), p))
    (hsub : ∀ x ∈ MemPlace.row ⟨g, 0, none⟩ cs.size ++ p, x ∈ ps) (hrows : ∀ b off, MemPlace.cell b off ∈ ps → (∃ c t, W.heap[b]? = some (.cells c t (0, 0))) ∧ ∀ u v, W.cell? ⟨b, off, none⟩ = some (.iface u v) → Value.okWide Tryz.prog W .any 0 u v) :
    ∃ a, cs = #[.iface 207 (.pointer (some a))] ∧ p = MemPlace.row a 1 ∧ (∃ c t, W.heap[a.block]? = some (.cells c t (0, 0))) ∧ W.cell? ⟨g, 0, none⟩ = some (.iface 207 (.pointer (some a))) := by
  obtain ⟨l⟩ := cs
  have ok : ∀ u v, l = [.iface u v] → Value.okWide Tryz.prog W .any 0 u v := fun u v e => by
    subst e
    exact (hrows g 0 (hsub _ (by simp [MemPlace.row]))).2 u v (by simpa using World.var?_cell hg hv 0)
  obtain ⟨a, s, rfl, hc, _, _, rfl⟩ := errorString_of_trod Tryz.underlying55 row66 Tryz.underlying207 Tryz.underlying209 rfl rfl Tryz.underlying9 cells91 cells9 hd ok
  exact ⟨a, rfl, rfl, (hrows a.block a.off (hsub _ (by simp [MemPlace.row]))).1, by simpa using World.var?_cell hg hv 0⟩

/-- the first of the list, a sentinel -/
theorem laid_err {W : World} {n : String} {text : List UInt8} {l : List (String × DataW Unit)} {g : Nat} (h : laidMet Tryz.prog ((n, .iface "*errors.errorString" (.ptr (.agg [.lit (.string text)]))) :: l) W) (hg : Tryz.prog.globalNamed n = some g) (ht : (Tryz.prog.globals[g]?).map (·.type) = some 55) :
    ∃ a, W.var? Tryz.prog n = some #[.iface 207 (.pointer (some a))] := by
  obtain ⟨ps, hl, hnd, hr⟩ := h
  obtain ⟨g', t, cs, f, p, q, h1, h2, h3, h4, h5, rfl⟩ := hl
  obtain rfl := Option.some.inj (hg.symm.trans h1)
  obtain rfl := Option.some.inj (ht.symm.trans h2)
  obtain ⟨a, rfl, _⟩ := laid_one hg h3 h4 (fun x hx => List.mem_append_left _ hx) hr
  exact ⟨a, h3⟩

theorem g_errWidth : Tryz.prog.globalNamed "loop.example/s01308/impl.errWidth" = some 1 := by kernel_rfl
theorem t_errWidth : (Tryz.prog.globals[1]?).map (·.type) = some 55 := by kernel_rfl
theorem g_errSize : Tryz.prog.globalNamed "loop.example/s01308/impl.errSize" = some 0 := by kernel_rfl
theorem t_errSize : (Tryz.prog.globals[0]?).map (·.type) = some 55 := by kernel_rfl
theorem g_errByte : Tryz.prog.globalNamed "loop.example/s01308/impl.errByte" = some 4 := by kernel_rfl
theorem t_errByte : (Tryz.prog.globals[4]?).map (·.type) = some 55 := by kernel_rfl
theorem g_errToken : Tryz.prog.globalNamed "loop.example/s01308/impl.errToken" = some 5 := by kernel_rfl
theorem t_errToken : (Tryz.prog.globals[5]?).map (·.type) = some 55 := by kernel_rfl
theorem g_errSyntax : Tryz.prog.globalNamed "loop.example/s01308/impl.errSyntax" = some 6 := by kernel_rfl
theorem t_errSyntax : (Tryz.prog.globals[6]?).map (·.type) = some 55 := by kernel_rfl
theorem g_errDepth : Tryz.prog.globalNamed "loop.example/s01308/impl.errDepth" = some 2 := by kernel_rfl
theorem t_errDepth : (Tryz.prog.globals[2]?).map (·.type) = some 55 := by kernel_rfl
theorem g_ErrRange : Tryz.prog.globalNamed "strconv.ErrRange" = some 11 := by kernel_rfl
theorem t_ErrRange : (Tryz.prog.globals[11]?).map (·.type) = some 55 := by kernel_rfl
theorem gTop : Tryz.prog.globalNamed "math/bits.deBruijn64tab" = some 16 := by kernel_rfl

/-- six sentinels in a row -/
theorem laid_six {W : World} {l : List (String × DataW Unit)} (h : laidMet Tryz.prog (("loop.example/s01308/impl.errWidth", Rows.laid_loop_example_s01308_impl_errWidth) :: ("loop.example/s01308/impl.errSize", Rows.laid_loop_example_s01308_impl_errSize) :: ("loop.example/s01308/impl.errByte", Rows.laid_loop_example_s01308_impl_errByte) :: ("loop.example/s01308/impl.errToken", Rows.laid_loop_example_s01308_impl_errToken) :: ("loop.example/s01308/impl.errSyntax", Rows.laid_loop_example_s01308_impl_errSyntax) :: ("loop.example/s01308/impl.errDepth", Rows.laid_loop_example_s01308_impl_errDepth) :: l) W) :
    ∃ a_errWidth a_errSize a_errByte a_errToken a_errSyntax a_errDepth : Addr, (W.cell? ⟨1, 0, none⟩ = some (.iface 207 (.pointer (some a_errWidth))) ∧ W.cell? ⟨0, 0, none⟩ = some (.iface 207 (.pointer (some a_errSize))) ∧ W.cell? ⟨4, 0, none⟩ = some (.iface 207 (.pointer (some a_errByte))) ∧ W.cell? ⟨5, 0, none⟩ = some (.iface 207 (.pointer (some a_errToken))) ∧ W.cell? ⟨6, 0, none⟩ = some (.iface 207 (.pointer (some a_errSyntax))) ∧ W.cell? ⟨2, 0, none⟩ = some (.iface 207 (.pointer (some a_errDepth)))) ∧ (∀ a ∈ [a_errSize, a_errByte, a_errToken, a_errSyntax, a_errWidth, a_errDepth], ∃ c t, W.heap[a.block]? = some (.cells c t (0, 0))) ∧ ([a_errSize, a_errByte, a_errToken, a_errSyntax, a_errWidth, a_errDepth] : List Addr).Nodup := by
  obtain ⟨ps, ⟨g0, t0, cs0, f0, p0, q0, hg0, ht0, hv0, hd0, ⟨g1, t1, cs1, f1, p1, q1, hg1, ht1, hv1, hd1, ⟨g2, t2, cs2, f2, p2, q2, hg2, ht2, hv2, hd2, ⟨g3, t3, cs3, f3, p3, q3, hg3, ht3, hv3, hd3, ⟨g4, t4, cs4, f4, p4, q4, hg4, ht4, hv4, hd4, ⟨g5, t5, cs5, f5, p5, q5, hg5, ht5, hv5, hd5, hq, e5⟩, e4⟩, e3⟩, e2⟩, e1⟩, e0⟩, hnd, hrows⟩ := h
  obtain rfl := Option.some.inj (g_errWidth.symm.trans hg0)
  obtain rfl := Option.some.inj (t_errWidth.symm.trans ht0)
  obtain rfl := Option.some.inj (g_errSize.symm.trans hg1)
  obtain rfl := Option.some.inj (t_errSize.symm.trans ht1)
  obtain rfl := Option.some.inj (g_errByte.symm.trans hg2)
  obtain rfl := Option.some.inj (t_errByte.symm.trans ht2)
  obtain rfl := Option.some.inj (g_errToken.symm.trans hg3)
  obtain rfl := Option.some.inj (t_errToken.symm.trans ht3)
  obtain rfl := Option.some.inj (g_errSyntax.symm.trans hg4)
  obtain rfl := Option.some.inj (t_errSyntax.symm.trans ht4)
  obtain rfl := Option.some.inj (g_errDepth.symm.trans hg5)
  obtain rfl := Option.some.inj (t_errDepth.symm.trans ht5)
  subst e5
  subst e4
  subst e3
  subst e2
  subst e1
  subst e0
  obtain ⟨a_errWidth, rfl, rfl, r_errWidth, c_errWidth⟩ := laid_one g_errWidth hv0 hd0 (fun x hx => List.mem_append_left _ hx) hrows
  obtain ⟨a_errSize, rfl, rfl, r_errSize, c_errSize⟩ := laid_one g_errSize hv1 hd1 (fun x hx => List.mem_append_right _ (List.mem_append_left _ hx)) hrows
  obtain ⟨a_errByte, rfl, rfl, r_errByte, c_errByte⟩ := laid_one g_errByte hv2 hd2 (fun x hx => List.mem_append_right _ (List.mem_append_right _ (List.mem_append_left _ hx))) hrows
  obtain ⟨a_errToken, rfl, rfl, r_errToken, c_errToken⟩ := laid_one g_errToken hv3 hd3 (fun x hx => List.mem_append_right _ (List.mem_append_right _ (List.mem_append_right _ (List.mem_append_left _ hx)))) hrows
  obtain ⟨a_errSyntax, rfl, rfl, r_errSyntax, c_errSyntax⟩ := laid_one g_errSyntax hv4 hd4 (fun x hx => List.mem_append_right _ (List.mem_append_right _ (List.mem_append_right _ (List.mem_append_right _ (List.mem_append_left _ hx))))) hrows
  obtain ⟨a_errDepth, rfl, rfl, r_errDepth, c_errDepth⟩ := laid_one g_errDepth hv5 hd5 (fun x hx => List.mem_append_right _ (List.mem_append_right _ (List.mem_append_right _ (List.mem_append_right _ (List.mem_append_right _ (List.mem_append_left _ hx)))))) hrows
  refine ⟨a_errWidth, a_errSize, a_errByte, a_errToken, a_errSyntax, a_errDepth, ⟨c_errWidth, c_errSize, c_errByte, c_errToken, c_errSyntax, c_errDepth⟩, fun a ha => ?_, ?_⟩
  · simp only [List.mem_cons, List.not_mem_nil, or_false] at ha
    rcases ha with rfl | rfl | rfl | rfl | rfl | rfl
    · exact r_errSize
    · exact r_errByte
    · exact r_errToken
    · exact r_errSyntax
    · exact r_errWidth
    · exact r_errDepth
  · simp only [List.nodup_cons, List.mem_cons, List.not_mem_nil, or_false, not_or, not_false_eq_true, List.nodup_nil, and_true]
    refine ⟨⟨?_, ?_, ?_, ?_, ?_⟩, ⟨?_, ?_, ?_, ?_⟩, ⟨?_, ?_, ?_⟩, ⟨?_, ?_⟩, ?_⟩
    all_goals (rintro rfl; simp [MemPlace.row] at hnd)

theorem oneRow : ((List.range 278).filter fun t => Tryz.prog.rowNamed t [101, 114, 114, 111, 114]) = [55] := by kernel_rfl
theorem nTypes : Tryz.prog.types.size = 278 := by kernel_rfl
theorem rtNamed : (Tryz.prog.cutTypes.find? (·.1 == "internal/reflectlite.rtype")).map (·.2) = some 142 := by kernel_rfl
theorem etNamed : Tryz.prog.globalNamed "errors.errorType" = some 3 := by kernel_rfl

/-- the handle that errors.As asks for -/
theorem handle_of {W : World} (h : handlesMet Tryz.prog [("errors.errorType", Rows.laid_errors_errorType)] W) : W.cell? ⟨3, 0, none⟩ = some (.iface 142 (.agg #[.pointer (some ⟨17, 55, none⟩)])) := by
  obtain ⟨name, u, ty, e1, e2, e3, e4, e5⟩ := h _ (List.mem_singleton.2 rfl)
  have en : name = [101, 114, 114, 111, 114] := (Option.some.inj e1).symm
  subst en
  obtain rfl := Option.some.inj (rtNamed.symm.trans e2)
  have hm : ty ∈ (List.range 278).filter fun t => Tryz.prog.rowNamed t [101, 114, 114, 111, 114] := List.mem_filter.2 ⟨List.mem_range.2 (by rw [← nTypes]; exact e3), e4⟩
  rw [oneRow] at hm
  obtain rfl := List.mem_singleton.1 hm
  have hh : typeHandle Tryz.prog 55 = .pointer (some ⟨17, 55, none⟩) := by kernel_rfl
  rw [hh] at e5
  simpa using World.var?_cell etNamed e5 0

theorem laid_parts {W : World} (h : laidMetH Tryz.prog laid16 W) : laidMet Tryz.prog plain15 W ∧ handlesMet Tryz.prog [("errors.errorType", Rows.laid_errors_errorType)] W := h

theorem gBin : Tryz.prog.globalNamed "loop.example/s01308/impl.binaryOperators" = some 13 := by kernel_rfl
theorem tBin : (Tryz.prog.globals[13]?).map (·.type) = some 210 := by kernel_rfl
theorem cellsOp : Tryz.prog.cellsOf 202 = 3 := by kernel_rfl
theorem cellsTab : Tryz.prog.cellsOf 210 = 48 := by kernel_rfl

/-- an operator's cells, by its datum -/
theorem opr_cells {H : Type} {enc : TypeId × Value → H} {w : World} {spare : Nat → Bool} {held : Bool} {fuel : Nat} {l : List Value} {x y : Int} {s : List UInt8} {p : List MemPlace}
    (h : DataW.trod enc Tryz.prog w 0 spare held fuel 202 l = some (.agg [.lit (.int .i64 x), .lit (.int .i64 y), .lit (.string s)], p)) : l = [.int .i64 x, .int .i64 y, .string ⟨s.toArray⟩] := by
  obtain ⟨xs, n, _, hd, hcl, hlen, hx⟩ := DataW.trod_struct Tryz.underlying202 h
  rw [cellsOp] at hcl
  match l, hcl with
  | [c0, c1, c2], _ =>
    have get : ∀ i, i < 3 → ∃ y, xs[i]? = some y := fun i hi => ⟨xs[i]'(by simp at hlen; omega), List.getElem?_eq_getElem _⟩
    obtain ⟨y0, e0⟩ := get 0 (by omega)
    obtain ⟨y1, e1⟩ := get 1 (by omega)
    obtain ⟨y2, e2⟩ := get 2 (by omega)
    have f0 : DataW.trod enc Tryz.prog w 0 spare held n 3 [c0] = some y0 := by
      have := (hx 0 _ rfl).trans e0
      simpa [cellsInt] using this
    have f1 : DataW.trod enc Tryz.prog w 0 spare held n 3 [c1] = some y1 := by
      have := (hx 1 _ rfl).trans e1
      simpa [cellsInt] using this
    have f2 : DataW.trod enc Tryz.prog w 0 spare held n 9 [c2] = some y2 := by
      have := (hx 2 _ rfl).trans e2
      simpa [cellsStr] using this
    obtain ⟨a0, k0, r0, _⟩ := DataW.trod_int Tryz.underlying3 f0
    obtain ⟨a1, k1, r1, _⟩ := DataW.trod_int Tryz.underlying3 f1
    obtain ⟨a2, k2, r2, _⟩ := DataW.trod_string Tryz.underlying9 f2
    have hm : xs.map (·.1) = [.lit (.int .i64 x), .lit (.int .i64 y), .lit (.string s)] := by
      have := congrArg Prod.fst hd
      simpa using this.symm
    have g0 : (xs.map (·.1))[0]? = some y0.1 := by rw [List.getElem?_map, e0]; rfl
    have g1 : (xs.map (·.1))[1]? = some y1.1 := by rw [List.getElem?_map, e1]; rfl
    have g2 : (xs.map (·.1))[2]? = some y2.1 := by rw [List.getElem?_map, e2]; rfl
    rw [hm] at g0 g1 g2
    rw [r0] at g0
    rw [r1] at g1
    rw [r2] at g2
    simp only [List.cons.injEq, and_true] at k0 k1 k2
    simp at g0 g1 g2
    subst g0 g1
    rw [k0, k1, k2, g2]

theorem datum_at : ∀ i, i < 16 → ∃ R : List (DataW Unit), Rows.laid_loop_example_s01308_impl_binaryOperators = .agg R ∧ R[i]? = some (.agg [.lit (.int .i64 (opr i).op), .lit (.int .i64 (opr i).lv), .lit (.string (opr i).text.data.toList)])
  | 0, _ | 1, _ | 2, _ | 3, _ | 4, _ | 5, _ | 6, _ | 7, _ | 8, _ | 9, _ | 10, _ | 11, _ | 12, _ | 13, _ | 14, _ | 15, _ => ⟨_, rfl, rfl⟩
  | n + 16, h => absurd h (by omega)

theorem tab_of_laid {W : World} {l : List (String × DataW Unit)} (h : laidMet Tryz.prog (("loop.example/s01308/impl.binaryOperators", Rows.laid_loop_example_s01308_impl_binaryOperators) :: l) W) : TabOK W := by
  obtain ⟨ps, ⟨g', t', cs, fuel, p, q, hg', ht', hvar, hd, _, _⟩, _⟩ := h
  obtain rfl := Option.some.inj (gBin.symm.trans hg')
  obtain rfl := Option.some.inj (tBin.symm.trans ht')
  obtain ⟨xs, m, _, hx, hcl, hlen, hel⟩ := DataW.trod_array Tryz.underlying210 hd
  rw [cellsTab] at hcl
  rw [cellsOp] at hel
  have hrow : ∀ i, i < 16 → (cs.toList.drop (i * 3)).take 3 = [.int .i64 (opr i).op, .int .i64 (opr i).lv, .string (opr i).text] := fun i hi => by
    obtain ⟨R, hR, hRi⟩ := datum_at i hi
    have hm : xs.map (·.1) = R := by
      have := congrArg Prod.fst hx
      rw [hR] at this
      simpa using this.symm
    obtain ⟨y, hy⟩ : ∃ y, xs[i]? = some y := ⟨xs[i]'(by omega), List.getElem?_eq_getElem _⟩
    have h1 := (hel i hi).trans hy
    have h2 : (xs.map (·.1))[i]? = some y.1 := by rw [List.getElem?_map, hy]; rfl
    rw [hm, hRi] at h2
    have h3 : y = (.agg [.lit (.int .i64 (opr i).op), .lit (.int .i64 (opr i).lv), .lit (.string (opr i).text.data.toList)], y.2) := Prod.ext (Option.some.inj h2).symm rfl
    rw [h3] at h1
    have := opr_cells h1
    rw [this]
  have hall : ∀ k : Nat, cs[k]? = binV[k]? := fun k => by
    by_cases hk : k < 48
    · have hi : k / 3 < 16 := by omega
      have e1 := hrow (k / 3) hi
      have e2 := binV_row (k / 3) hi
      have a1 : ((cs.toList.drop (k / 3 * 3)).take 3)[k % 3]? = cs[k]? := by
        rw [List.getElem?_take, if_pos (by omega), List.getElem?_drop, show k / 3 * 3 + k % 3 = k by omega, Array.getElem?_toList]
      have a2 : (binV.extract (k / 3 * 3) (k / 3 * 3 + 3))[k % 3]? = binV[k]? := by
        have hb : binV.size = 48 := rfl
        rw [Array.getElem?_extract, if_pos (by rw [hb]; omega), show k / 3 * 3 + k % 3 = k by omega]
      rw [← a1, ← a2, e1, e2]
      simp
    · have hb : binV.size = 48 := rfl
      rw [Array.getElem?_eq_none (by rw [← Array.length_toList, hcl]; omega), Array.getElem?_eq_none (by rw [hb]; omega)]
  have hheap : ∃ t fr, W.heap[13]? = some (.cells cs t fr) := by
    simp only [World.var?, gBin, Option.bind_some] at hvar
    split at hvar
    · rename_i c t fr hb
      simp only [Option.some.injEq] at hvar
      subst hvar
      exact ⟨t, fr, hb⟩
    · cases hvar
  obtain ⟨t, fr, hb⟩ := hheap
  exact ⟨(Array.getElem?_eq_some_iff.1 hb).1, fun k => (cell_of_row W _ k cs t fr hb).trans (hall k)⟩

theorem env_of_laid {W : World} (h0 : laidMetH Tryz.prog laid16 W) : ∃ a1 a2 a3 a4 a5 a6, EvP W a1 a2 a3 a4 a5 a6 := by
  obtain ⟨hp, hh⟩ := laid_parts h0
  have gE := handle_of hh
  obtain ⟨cs20, v20⟩ := laid_head (laidMet_tail hp)
  have big := lt_of_var gTop v20
  have h3 := laidMet_tail (laidMet_tail (laidMet_tail hp))
  obtain ⟨aR, vR⟩ := laid_err h3 g_ErrRange t_ErrRange
  have h5 := laidMet_tail (laidMet_tail h3)
  obtain ⟨a_errWidth, a_errSize, a_errByte, a_errToken, a_errSyntax, a_errDepth, ⟨c_errWidth, c_errSize, c_errByte, c_errToken, c_errSyntax, c_errDepth⟩, hrows, hnd⟩ := laid_six h5
  have hT := tab_of_laid (laidMet_tail (laidMet_tail (laidMet_tail (laidMet_tail (laidMet_tail (laidMet_tail (laidMet_tail (laidMet_tail (laidMet_tail h5)))))))))
  exact ⟨a_errSize, a_errByte, a_errToken, a_errSyntax, a_errWidth, a_errDepth, ⟨⟨c_errSize, c_errByte, c_errToken, c_errSyntax, c_errWidth, c_errDepth, gE, ⟨_, _, vR⟩, by omega, hrows, hnd⟩, hT.2⟩⟩

theorem all_vars {H : Type} {enc : TypeId × Value → H} {P : Program} {w : World} {spare : Nat → Bool} {n0 n1 n2 n3 n4 n5 n6 n7 n8 n9 : String} : ∀ {gs : List (DataW H)} {ps : List MemPlace}, DataW.TrodVars enc P w spare [n0, n1, n2, n3, n4, n5, n6, n7, n8, n9] gs ps → ∃ g0 g1 g2 g3 g4 g5 g6 g7 g8 g9, gs = [g0, g1, g2, g3, g4, g5, g6, g7, g8, g9]
  | [], _, h => by simp [DataW.TrodVars] at h
  | [_], _, h => by simp [DataW.TrodVars] at h
  | [_, _], _, h => by simp [DataW.TrodVars] at h
  | [_, _, _], _, h => by simp [DataW.TrodVars] at h
  | [_, _, _, _], _, h => by simp [DataW.TrodVars] at h
  | [_, _, _, _, _], _, h => by simp [DataW.TrodVars] at h
  | [_, _, _, _, _, _], _, h => by simp [DataW.TrodVars] at h
  | [_, _, _, _, _, _, _], _, h => by simp [DataW.TrodVars] at h
  | [_, _, _, _, _, _, _, _], _, h => by simp [DataW.TrodVars] at h
  | [_, _, _, _, _, _, _, _, _], _, h => by simp [DataW.TrodVars] at h
  | [g0, g1, g2, g3, g4, g5, g6, g7, g8, g9], _, _ => ⟨g0, g1, g2, g3, g4, g5, g6, g7, g8, g9, rfl⟩
  | _ :: _ :: _ :: _ :: _ :: _ :: _ :: _ :: _ :: _ :: _ :: _, _, h => by simp [DataW.TrodVars] at h

theorem lifted (os : Os) (started : os.Started) (H : Type) (enc : TypeId × Value → H) :
    ReturnsInHanded {} Tryz.checked os 3 .any (fun w args => (Rows.fnExactParseSpec.pre enc Tryz.prog Tryz.f3 [] false w args ∧ laidMetH Tryz.prog laid16 w) ∧ sizedMet enc Tryz.prog Tryz.f3 (OpenSpec.ofChange Rows.fnExactParseSpec) false w args)
      (Rows.fnExactParseSpec.post enc Tryz.prog Tryz.f3 false true false false) := by
  refine returnsInHanded_of_change_and (C := Tryz.checked) (X := fun w _ => laidMetH Tryz.prog laid16 w) (fun _ _ _ hh h => h.of_heap hh) own started (by kernel_rfl) Tryz.func3
    (ChangeSpec.witness_shaped (enc := enc) (C := Tryz.checked) (os := os) (X := fun w _ => laidMetH Tryz.prog laid16 w) false (World.doorLaid Tryz.prog 261 os) #[.string ByteArray.empty] 8 rfl (World.shaped_of_RefB (by kernel_rfl) (by kernel_rfl)) (by kernel_rfl) (by kernel_rfl) (by kernel_rfl) (door_met os _)) ?_
  intro W base args ds gs before hval0 hW _ _ hL _
  have hval : ∀ (j : Nat) t v, Tryz.f3.params[j]? = some t → args[j]? = some v → Value.okWide Tryz.prog W .any base t v := hval0
  have hW' := hW
  obtain ⟨p, q, hA0, hV0, rfl, hfz, hnd⟩ := hW
  have hA : DataW.TrodAll enc Tryz.prog W 0 (fun _ => true) true Tryz.f3.params.toList args.toList ds p := hA0
  have hV : DataW.TrodVars enc Tryz.prog W (fun _ => true) ["loop.example/s01308/impl.errSize", "loop.example/s01308/impl.errToken", "loop.example/s01308/impl.errByte", "loop.example/s01308/impl.errSyntax", "loop.example/s01308/impl.binaryOperators", "loop.example/s01308/impl.errWidth", "loop.example/s01308/impl.errDepth", "loop.example/s01308/impl.errName", "loop.example/s01308/impl.errAgain", "loop.example/s01308/impl.errType"] gs q := hV0
  rw [Tryz.params3] at hA hval
  obtain ⟨v0, d0, rfl, rfl, h0⟩ := trodAll_one hA
  obtain ⟨s, rfl, rfl, rfl, ws⟩ := open_string Tryz.underlying9 (hval 0 9 v0 rfl rfl) h0
  obtain ⟨u0, u1, u2, u3, u4, u5, u6, u7, u8, u9, rfl⟩ := all_vars hV
  obtain ⟨a1, a2, a3, a4, a5, a6, S⟩ := env_of_laid hL
  clear hA0 hV0 hval0
  refine (fnExactParse_walk s W S ws).mono fun e W' ⟨he, bel⟩ => ?_
  subst he
  exact ⟨_, rfl, _, _, _, [], [], _, hW', trodAll_mk1 (shut_bool Tryz.underlying4 _), trodAll_mk1 (shut_string Tryz.underlying9 ws), Below.trodVars laidOut bel (by kernel_rfl) hV, bel.frame _, fun h => by cases h⟩

theorem over : Rows.FnExactParseSaid :=
  OpenClaim.holds_of_wide 3 Tryz.f3 rfl rfl rfl rfl rfl rfl rfl ⟨rfl, rfl, rfl, rfl, rfl⟩ rfl rfl rfl rfl rfl (by kernel_rfl) Tryz.func3 (by kernel_rfl)
    (of_decide_eq_true (by kernel_rfl)) (by unfold Func.isWrapper; first | (rw [if_pos (by decide +kernel)]; kernel_rfl) | (rw [if_neg (by decide +kernel)]; exact ⟨rfl, rfl⟩))
    (fun os started H enc _ => lifted os started H enc)

theorem card : Rows.FnExactParseCardSaid :=
  Claim7.holds_tied_plain_at .later [] [.data, .data, .data, .handle, .sentinel, .sentinel, .sentinel, .sentinel, .sentinel, .sentinel, .sentinel, .sentinel, .sentinel, .sentinel, .sentinel, .data] true (true, "0465e406fdc865e26736b6790a970bfd7bae2fb8e5b585b74c642d25462aa886") true
    over (fun _ h => by cases h) (by kernel_rfl) (fun _ h => by cases h) fnExactParse_row_tie rfl ⟨rfl, rfl⟩ (by kernel_rfl) rfl
    (fun f fn hf hfn => by
      obtain rfl : f = 3 := Option.some.inj ((show Tryz.prog.funcNamed "loop.example/s01308/laws.FnExactParse" = some 3 by kernel_rfl).symm.trans hf) |>.symm
      obtain rfl : fn = Tryz.f3 := (Option.some.inj (Tryz.func3.symm.trans hfn)).symm
      exact ⟨by kernel_rfl, fun j t ht => by
        rw [Tryz.params3] at ht
        have hm : t ∈ [9] := by simpa using Array.mem_of_getElem? ht
        have hall : ([9].all fun u => !Tryz.prog.wantsStandIn u) = true := by kernel_rfl
        exact (show Tryz.prog.wantsStandIn t = false by simpa using List.all_eq_true.1 hall t hm)⟩)
    (by kernel_rfl)

end Go.Proofs.YtcehablmloleaaaGreatDoor.fnExactParseDone

namespace Go.Proofs.YtcehablmloleaaaGreatDoor
theorem fnExactParse_holds : Rows.FnExactParseCardSaid := fnExactParseDone.card
end Go.Proofs.YtcehablmloleaaaGreatDoor

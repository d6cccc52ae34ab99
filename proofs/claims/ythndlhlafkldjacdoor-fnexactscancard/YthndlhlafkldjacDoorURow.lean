/-
  FnExactScan: the row, and its card. Own work.
-/
import Derived.Test.YthndlhlafkldjacDoorUC
import Derived.Test.YthndlhlafkldjacDoorTie
import Derived.Test.YthndlhlafkldjacDoorCards
import Derived.SevenTiedAt
import Derived.WalkKit
import Derived.ProofKit
import Derived.OpenShut
import Derived.ShutString
import Derived.LaidMore
import Derived.LaidHandle
import Derived.Stop.LaidErr
import Derived.Stop.Joined
import Derived.ChangeOld
import Derived.Below
import Derived.WalkSmall
namespace Go.Proofs.YthndlhlafkldjacDoor.fnExactScanDone
open Go.ChangeShapes Go.WideShapes Go.ChangeAt Go.RowKit
open Go.ChangeMaps (open_string shut_string)
set_option linter.unusedVariables false
set_option maxRecDepth 100000

theorem own : ownKnob Tryd.prog.godebug = none := by kernel_rfl
theorem laidOut : laidOutB Tryd.prog = true := by kernel_rfl

abbrev laid15 : List (String × DataW Unit) := [("math/bits.deBruijn32tab", Rows.laid_math_bits_deBruijn32tab), ("math/bits.deBruijn64tab", Rows.laid_math_bits_deBruijn64tab), ("internal/strconv.uint64pow10", Rows.laid_internal_strconv_uint64pow10), ("errors.errorType", Rows.laid_errors_errorType), ("strconv.ErrRange", Rows.laid_strconv_ErrRange), ("strconv.ErrSyntax", Rows.laid_strconv_ErrSyntax), ("loop.example/s01308/impl.errWidth", Rows.laid_loop_example_s01308_impl_errWidth), ("loop.example/s01308/impl.errSize", Rows.laid_loop_example_s01308_impl_errSize), ("loop.example/s01308/impl.errByte", Rows.laid_loop_example_s01308_impl_errByte), ("loop.example/s01308/impl.errToken", Rows.laid_loop_example_s01308_impl_errToken), ("loop.example/s01308/impl.errSyntax", Rows.laid_loop_example_s01308_impl_errSyntax), ("loop.example/s01308/impl.errDepth", Rows.laid_loop_example_s01308_impl_errDepth), ("loop.example/s01308/impl.errName", Rows.laid_loop_example_s01308_impl_errName), ("loop.example/s01308/impl.errAgain", Rows.laid_loop_example_s01308_impl_errAgain), ("loop.example/s01308/impl.errType", Rows.laid_loop_example_s01308_impl_errType)]
abbrev plain14 : List (String × DataW Unit) := [("math/bits.deBruijn32tab", Rows.laid_math_bits_deBruijn32tab), ("math/bits.deBruijn64tab", Rows.laid_math_bits_deBruijn64tab), ("internal/strconv.uint64pow10", Rows.laid_internal_strconv_uint64pow10), ("strconv.ErrRange", Rows.laid_strconv_ErrRange), ("strconv.ErrSyntax", Rows.laid_strconv_ErrSyntax), ("loop.example/s01308/impl.errWidth", Rows.laid_loop_example_s01308_impl_errWidth), ("loop.example/s01308/impl.errSize", Rows.laid_loop_example_s01308_impl_errSize), ("loop.example/s01308/impl.errByte", Rows.laid_loop_example_s01308_impl_errByte), ("loop.example/s01308/impl.errToken", Rows.laid_loop_example_s01308_impl_errToken), ("loop.example/s01308/impl.errSyntax", Rows.laid_loop_example_s01308_impl_errSyntax), ("loop.example/s01308/impl.errDepth", Rows.laid_loop_example_s01308_impl_errDepth), ("loop.example/s01308/impl.errName", Rows.laid_loop_example_s01308_impl_errName), ("loop.example/s01308/impl.errAgain", Rows.laid_loop_example_s01308_impl_errAgain), ("loop.example/s01308/impl.errType", Rows.laid_loop_example_s01308_impl_errType)]

theorem laidMet_tail {P : Program} {x : String × DataW Unit} {l : List (String × DataW Unit)} {W : World} (h : laidMet P (x :: l) W) : laidMet P l W := by
  obtain ⟨ps, hl, hnd, hr⟩ := h
  obtain ⟨n, d⟩ := x
  obtain ⟨g, t, cs, f, p, q, h1, h2, h3, h4, h5, rfl⟩ := hl
  exact ⟨q, h5, (List.nodup_append.1 hnd).2.1, fun b off hm => hr b off (List.mem_append_right _ hm)⟩

theorem lt_of_var {P : Program} {W : World} {n : String} {g : Nat} {cs : Array Value} (hg : P.globalNamed n = some g) (h : W.var? P n = some cs) : g < W.heap.size := by
  rcases Nat.lt_or_ge g W.heap.size with k | k
  · exact k
  · unfold World.var? at h
    rw [hg] at h
    simp [Array.getElem?_eq_none k] at h

theorem laid_head {P : Program} {n : String} {d : DataW Unit} {l : List (String × DataW Unit)} {W : World} (h : laidMet P ((n, d) :: l) W) : ∃ cs, W.var? P n = some cs := by
  obtain ⟨ps, hl, _⟩ := h
  obtain ⟨g, t, cs, f, p, q, h1, h2, h3, h4, h5, rfl⟩ := hl
  exact ⟨cs, h3⟩

theorem row66 : ∀ u, Tryd.prog.typeName? 3 u = some "*errors.errorString" → u = 184 :=
  typeName_ptr_named (nm := "errors.errorString") (by kernel_rfl) (by kernel_rfl) (by decide)
theorem cells91 : Tryd.prog.cellsOf 186 = 1 := by kernel_rfl
theorem cells9 : Tryd.prog.cellsOf 9 = 1 := by kernel_rfl

/-- one sentinel of the list -/
theorem laid_one {W : World} {n : String} {text : List UInt8} {g : Nat} {cs : Array Value} {f : Nat} {p : List MemPlace} {ps : List MemPlace} (hg : Tryd.prog.globalNamed n = some g) (hv : W.var? Tryd.prog n = some cs)
    (hd : DataW.trod (fun _ => ()) Tryd.prog W 0 (fun _ => true) false f 53 cs.toList = some (.iface "*errors.errorString" (.ptr (.agg [.lit (.string text)])), p))
    (hsub : ∀ x ∈ MemPlace.row ⟨g, 0, none⟩ cs.size ++ p, x ∈ ps) (hrows : ∀ b off, MemPlace.cell b off ∈ ps → (∃ c t, W.heap[b]? = some (.cells c t (0, 0))) ∧ ∀ u v, W.cell? ⟨b, off, none⟩ = some (.iface u v) → Value.okWide Tryd.prog W .any 0 u v) :
    ∃ a, cs = #[.iface 184 (.pointer (some a))] ∧ p = MemPlace.row a 1 ∧ (∃ c t, W.heap[a.block]? = some (.cells c t (0, 0))) ∧ W.cell? ⟨g, 0, none⟩ = some (.iface 184 (.pointer (some a))) := by
  obtain ⟨l⟩ := cs
  have ok : ∀ u v, l = [.iface u v] → Value.okWide Tryd.prog W .any 0 u v := fun u v e => by
    subst e
    exact (hrows g 0 (hsub _ (by simp [MemPlace.row]))).2 u v (by simpa using World.var?_cell hg hv 0)
  obtain ⟨a, s, rfl, hc, _, _, rfl⟩ := errorString_of_trod Tryd.underlying53 row66 Tryd.underlying184 Tryd.underlying186 rfl rfl Tryd.underlying9 cells91 cells9 hd ok
  exact ⟨a, rfl, rfl, (hrows a.block a.off (hsub _ (by simp [MemPlace.row]))).1, by simpa using World.var?_cell hg hv 0⟩

/-- the first of the list, a sentinel -/
theorem laid_err {W : World} {n : String} {text : List UInt8} {l : List (String × DataW Unit)} {g : Nat} (h : laidMet Tryd.prog ((n, .iface "*errors.errorString" (.ptr (.agg [.lit (.string text)]))) :: l) W) (hg : Tryd.prog.globalNamed n = some g) (ht : (Tryd.prog.globals[g]?).map (·.type) = some 53) :
    ∃ a, W.var? Tryd.prog n = some #[.iface 184 (.pointer (some a))] := by
  obtain ⟨ps, hl, hnd, hr⟩ := h
  obtain ⟨g', t, cs, f, p, q, h1, h2, h3, h4, h5, rfl⟩ := hl
  obtain rfl := Option.some.inj (hg.symm.trans h1)
  obtain rfl := Option.some.inj (ht.symm.trans h2)
  obtain ⟨a, rfl, _⟩ := laid_one hg h3 h4 (fun x hx => List.mem_append_left _ hx) hr
  exact ⟨a, h3⟩

theorem g_errSize : Tryd.prog.globalNamed "loop.example/s01308/impl.errSize" = some 0 := by kernel_rfl
theorem t_errSize : (Tryd.prog.globals[0]?).map (·.type) = some 53 := by kernel_rfl
theorem g_errToken : Tryd.prog.globalNamed "loop.example/s01308/impl.errToken" = some 7 := by kernel_rfl
theorem t_errToken : (Tryd.prog.globals[7]?).map (·.type) = some 53 := by kernel_rfl
theorem g_errByte : Tryd.prog.globalNamed "loop.example/s01308/impl.errByte" = some 6 := by kernel_rfl
theorem t_errByte : (Tryd.prog.globals[6]?).map (·.type) = some 53 := by kernel_rfl
theorem g_errSyntax : Tryd.prog.globalNamed "loop.example/s01308/impl.errSyntax" = some 8 := by kernel_rfl
theorem t_errSyntax : (Tryd.prog.globals[8]?).map (·.type) = some 53 := by kernel_rfl
theorem g_errWidth : Tryd.prog.globalNamed "loop.example/s01308/impl.errWidth" = some 2 := by kernel_rfl
theorem t_errWidth : (Tryd.prog.globals[2]?).map (·.type) = some 53 := by kernel_rfl
theorem g_errDepth : Tryd.prog.globalNamed "loop.example/s01308/impl.errDepth" = some 9 := by kernel_rfl
theorem t_errDepth : (Tryd.prog.globals[9]?).map (·.type) = some 53 := by kernel_rfl
theorem g_errName : Tryd.prog.globalNamed "loop.example/s01308/impl.errName" = some 10 := by kernel_rfl
theorem t_errName : (Tryd.prog.globals[10]?).map (·.type) = some 53 := by kernel_rfl
theorem g_errAgain : Tryd.prog.globalNamed "loop.example/s01308/impl.errAgain" = some 11 := by kernel_rfl
theorem t_errAgain : (Tryd.prog.globals[11]?).map (·.type) = some 53 := by kernel_rfl
theorem g_errType : Tryd.prog.globalNamed "loop.example/s01308/impl.errType" = some 12 := by kernel_rfl
theorem t_errType : (Tryd.prog.globals[12]?).map (·.type) = some 53 := by kernel_rfl
theorem g_ErrRange : Tryd.prog.globalNamed "strconv.ErrRange" = some 15 := by kernel_rfl
theorem t_ErrRange : (Tryd.prog.globals[15]?).map (·.type) = some 53 := by kernel_rfl
theorem gTop : Tryd.prog.globalNamed "math/bits.deBruijn64tab" = some 20 := by kernel_rfl
/-- three sentinels in a row -/
theorem laid_three {W : World} {l : List (String × DataW Unit)} (h : laidMet Tryd.prog (("loop.example/s01308/impl.errSize", Rows.laid_loop_example_s01308_impl_errSize) :: ("loop.example/s01308/impl.errByte", Rows.laid_loop_example_s01308_impl_errByte) :: ("loop.example/s01308/impl.errToken", Rows.laid_loop_example_s01308_impl_errToken) :: l) W) :
    ∃ aS aB aT, (W.var? Tryd.prog "loop.example/s01308/impl.errSize" = some #[.iface 184 (.pointer (some aS))] ∧ W.var? Tryd.prog "loop.example/s01308/impl.errByte" = some #[.iface 184 (.pointer (some aB))] ∧ W.var? Tryd.prog "loop.example/s01308/impl.errToken" = some #[.iface 184 (.pointer (some aT))]) ∧
      (W.cell? ⟨0, 0, none⟩ = some (.iface 184 (.pointer (some aS))) ∧ W.cell? ⟨6, 0, none⟩ = some (.iface 184 (.pointer (some aB))) ∧ W.cell? ⟨7, 0, none⟩ = some (.iface 184 (.pointer (some aT)))) ∧
      ((∃ c t, W.heap[aS.block]? = some (.cells c t (0, 0))) ∧ (∃ c t, W.heap[aB.block]? = some (.cells c t (0, 0))) ∧ ∃ c t, W.heap[aT.block]? = some (.cells c t (0, 0))) ∧ aS ≠ aB ∧ aS ≠ aT ∧ aB ≠ aT := by
  obtain ⟨ps, ⟨g0, t0, cs0, f0, p0, q0, hg0, ht0, hv0, hd0, ⟨g1, t1, cs1, f1, p1, q1, hg1, ht1, hv1, hd1, ⟨g2, t2, cs2, f2, p2, q2, hg2, ht2, hv2, hd2, hq, e2⟩, e1⟩, e0⟩, hnd, hrows⟩ := h
  obtain rfl := Option.some.inj (g_errSize.symm.trans hg0)
  obtain rfl := Option.some.inj (g_errByte.symm.trans hg1)
  obtain rfl := Option.some.inj (g_errToken.symm.trans hg2)
  obtain rfl := Option.some.inj (t_errSize.symm.trans ht0)
  obtain rfl := Option.some.inj (t_errByte.symm.trans ht1)
  obtain rfl := Option.some.inj (t_errToken.symm.trans ht2)
  subst e2
  subst e1
  subst e0
  obtain ⟨aS, rfl, rfl, rS, cS⟩ := laid_one g_errSize hv0 hd0 (fun x hx => List.mem_append_left _ hx) hrows
  obtain ⟨aB, rfl, rfl, rB, cB⟩ := laid_one g_errByte hv1 hd1 (fun x hx => List.mem_append_right _ (List.mem_append_left _ hx)) hrows
  obtain ⟨aT, rfl, rfl, rT, cT⟩ := laid_one g_errToken hv2 hd2 (fun x hx => List.mem_append_right _ (List.mem_append_right _ (List.mem_append_left _ hx))) hrows
  refine ⟨aS, aB, aT, ⟨hv0, hv1, hv2⟩, ⟨cS, cB, cT⟩, ⟨rS, rB, rT⟩, ?_, ?_, ?_⟩
  all_goals (rintro rfl; simp [MemPlace.row] at hnd)

theorem oneRow : ((List.range 225).filter fun t => Tryd.prog.rowNamed t [101, 114, 114, 111, 114]) = [53] := by kernel_rfl
theorem nTypes : Tryd.prog.types.size = 225 := by kernel_rfl
theorem rtNamed : (Tryd.prog.cutTypes.find? (·.1 == "internal/reflectlite.rtype")).map (·.2) = some 132 := by kernel_rfl
theorem etNamed : Tryd.prog.globalNamed "errors.errorType" = some 5 := by kernel_rfl

/-- the handle that errors.As asks for -/
theorem handle_of {W : World} (h : handlesMet Tryd.prog [("errors.errorType", Rows.laid_errors_errorType)] W) : W.cell? ⟨5, 0, none⟩ = some (.iface 132 (.agg #[.pointer (some ⟨21, 53, none⟩)])) := by
  obtain ⟨name, u, ty, e1, e2, e3, e4, e5⟩ := h _ (List.mem_singleton.2 rfl)
  have en : name = [101, 114, 114, 111, 114] := (Option.some.inj e1).symm
  subst en
  obtain rfl := Option.some.inj (rtNamed.symm.trans e2)
  have hm : ty ∈ (List.range 225).filter fun t => Tryd.prog.rowNamed t [101, 114, 114, 111, 114] := List.mem_filter.2 ⟨List.mem_range.2 (by rw [← nTypes]; exact e3), e4⟩
  rw [oneRow] at hm
  obtain rfl := List.mem_singleton.1 hm
  have hh : typeHandle Tryd.prog 53 = .pointer (some ⟨21, 53, none⟩) := by kernel_rfl
  rw [hh] at e5
  simpa using World.var?_cell etNamed e5 0

theorem laid_parts {W : World} (h : laidMetH Tryd.prog laid15 W) : laidMet Tryd.prog plain14 W ∧ handlesMet Tryd.prog [("errors.errorType", Rows.laid_errors_errorType)] W := h

/-- The door's own heap meets the condition. -/
theorem door_met (os : Os) (args : Array Value) : laidMetH Tryd.prog laid15 ((World.doorLaid Tryd.prog 307 os).forCall (fun _ _ => 0) ⟨#[], args, []⟩).memory :=
  laidMetH_of_parts3 (fuel := 8) (laidMet_of_run' 8 (by kernel_rfl) (by kernel_rfl)) (by kernel_rfl) (by kernel_rfl)

/-- What the condition gives the walks, and that the variables read so. -/
theorem snt_of_laid {W : World} (h0 : laidMetH Tryd.prog laid15 W) : ∃ aS aB aT a_errSyntax a_errWidth a_errDepth a_errName a_errAgain a_errType, Snt W aS aB aT ∧ W.var? Tryd.prog "loop.example/s01308/impl.errSize" = some #[.iface 184 (.pointer (some aS))] ∧ W.var? Tryd.prog "loop.example/s01308/impl.errToken" = some #[.iface 184 (.pointer (some aT))] ∧ W.var? Tryd.prog "loop.example/s01308/impl.errByte" = some #[.iface 184 (.pointer (some aB))] ∧ W.var? Tryd.prog "loop.example/s01308/impl.errSyntax" = some #[.iface 184 (.pointer (some a_errSyntax))] ∧ W.var? Tryd.prog "loop.example/s01308/impl.errWidth" = some #[.iface 184 (.pointer (some a_errWidth))] ∧ W.var? Tryd.prog "loop.example/s01308/impl.errDepth" = some #[.iface 184 (.pointer (some a_errDepth))] ∧ W.var? Tryd.prog "loop.example/s01308/impl.errName" = some #[.iface 184 (.pointer (some a_errName))] ∧ W.var? Tryd.prog "loop.example/s01308/impl.errAgain" = some #[.iface 184 (.pointer (some a_errAgain))] ∧ W.var? Tryd.prog "loop.example/s01308/impl.errType" = some #[.iface 184 (.pointer (some a_errType))] := by
  obtain ⟨hp, hh⟩ := laid_parts h0
  have gE := handle_of hh
  obtain ⟨cs20, v20⟩ := laid_head (laidMet_tail hp)
  have big := lt_of_var gTop v20
  have h3 := laidMet_tail (laidMet_tail (laidMet_tail hp))
  obtain ⟨aR, vR⟩ := laid_err h3 g_ErrRange t_ErrRange
  have h5 := laidMet_tail (laidMet_tail h3)
  obtain ⟨a_errWidth, v_errWidth⟩ := laid_err h5 g_errWidth t_errWidth
  have h6 := laidMet_tail h5
  obtain ⟨aS, aB, aT, ⟨vS, vB, vT⟩, ⟨cS, cB, cT⟩, ⟨rS, rB, rT⟩, nSB, nST, nBT⟩ := laid_three h6
  have h9 := laidMet_tail (laidMet_tail (laidMet_tail h6))
  obtain ⟨a_errSyntax, v_errSyntax⟩ := laid_err h9 g_errSyntax t_errSyntax
  have h10 := laidMet_tail h9
  obtain ⟨a_errDepth, v_errDepth⟩ := laid_err h10 g_errDepth t_errDepth
  have h11 := laidMet_tail h10
  obtain ⟨a_errName, v_errName⟩ := laid_err h11 g_errName t_errName
  have h12 := laidMet_tail h11
  obtain ⟨a_errAgain, v_errAgain⟩ := laid_err h12 g_errAgain t_errAgain
  have h13 := laidMet_tail h12
  obtain ⟨a_errType, v_errType⟩ := laid_err h13 g_errType t_errType
  exact ⟨aS, aB, aT, a_errSyntax, a_errWidth, a_errDepth, a_errName, a_errAgain, a_errType, ⟨cS, cB, cT, gE, ⟨_, _, vR⟩, by omega, rS, rB, rT, nSB, nST, nBT⟩, vS, vT, vB, v_errSyntax, v_errWidth, v_errDepth, v_errName, v_errAgain, v_errType⟩

/-- The nine variables read as tokens. -/
theorem vars_read9 {H : Type} (enc : TypeId × Value → H) {W : World} {y0 y1 y2 y3 y4 y5 y6 y7 y8 : Value} (h0 : W.var? Tryd.prog "loop.example/s01308/impl.errSize" = some #[y0]) (h1 : W.var? Tryd.prog "loop.example/s01308/impl.errToken" = some #[y1]) (h2 : W.var? Tryd.prog "loop.example/s01308/impl.errByte" = some #[y2]) (h3 : W.var? Tryd.prog "loop.example/s01308/impl.errSyntax" = some #[y3]) (h4 : W.var? Tryd.prog "loop.example/s01308/impl.errWidth" = some #[y4]) (h5 : W.var? Tryd.prog "loop.example/s01308/impl.errDepth" = some #[y5]) (h6 : W.var? Tryd.prog "loop.example/s01308/impl.errName" = some #[y6]) (h7 : W.var? Tryd.prog "loop.example/s01308/impl.errAgain" = some #[y7]) (h8 : W.var? Tryd.prog "loop.example/s01308/impl.errType" = some #[y8]) (i0 : IsIface y0) (i1 : IsIface y1) (i2 : IsIface y2) (i3 : IsIface y3) (i4 : IsIface y4) (i5 : IsIface y5) (i6 : IsIface y6) (i7 : IsIface y7) (i8 : IsIface y8) (sp : Nat → Bool) :
    DataW.TrodVars enc Tryd.prog W sp ["loop.example/s01308/impl.errSize", "loop.example/s01308/impl.errToken", "loop.example/s01308/impl.errByte", "loop.example/s01308/impl.errSyntax", "loop.example/s01308/impl.errWidth", "loop.example/s01308/impl.errDepth", "loop.example/s01308/impl.errName", "loop.example/s01308/impl.errAgain", "loop.example/s01308/impl.errType"] [tok enc y0, tok enc y1, tok enc y2, tok enc y3, tok enc y4, tok enc y5, tok enc y6, tok enc y7, tok enc y8] [.cell 0 0, .cell 7 0, .cell 6 0, .cell 8 0, .cell 2 0, .cell 9 0, .cell 10 0, .cell 11 0, .cell 12 0] :=
  ⟨0, 53, #[y0], 1, [], [.cell 7 0, .cell 6 0, .cell 8 0, .cell 2 0, .cell 9 0, .cell 10 0, .cell 11 0, .cell 12 0], g_errSize, t_errSize, h0, trod_held Tryd.underlying53 i0 0, ⟨7, 53, #[y1], 1, [], [.cell 6 0, .cell 8 0, .cell 2 0, .cell 9 0, .cell 10 0, .cell 11 0, .cell 12 0], g_errToken, t_errToken, h1, trod_held Tryd.underlying53 i1 0, ⟨6, 53, #[y2], 1, [], [.cell 8 0, .cell 2 0, .cell 9 0, .cell 10 0, .cell 11 0, .cell 12 0], g_errByte, t_errByte, h2, trod_held Tryd.underlying53 i2 0, ⟨8, 53, #[y3], 1, [], [.cell 2 0, .cell 9 0, .cell 10 0, .cell 11 0, .cell 12 0], g_errSyntax, t_errSyntax, h3, trod_held Tryd.underlying53 i3 0, ⟨2, 53, #[y4], 1, [], [.cell 9 0, .cell 10 0, .cell 11 0, .cell 12 0], g_errWidth, t_errWidth, h4, trod_held Tryd.underlying53 i4 0, ⟨9, 53, #[y5], 1, [], [.cell 10 0, .cell 11 0, .cell 12 0], g_errDepth, t_errDepth, h5, trod_held Tryd.underlying53 i5 0, ⟨10, 53, #[y6], 1, [], [.cell 11 0, .cell 12 0], g_errName, t_errName, h6, trod_held Tryd.underlying53 i6 0, ⟨11, 53, #[y7], 1, [], [.cell 12 0], g_errAgain, t_errAgain, h7, trod_held Tryd.underlying53 i7 0, ⟨12, 53, #[y8], 1, [], [], g_errType, t_errType, h8, trod_held Tryd.underlying53 i8 0, rfl, rfl⟩, rfl⟩, rfl⟩, rfl⟩, rfl⟩, rfl⟩, rfl⟩, rfl⟩, rfl⟩

theorem lifted (os : Os) (started : os.Started) (H : Type) (enc : TypeId × Value → H) :
    ReturnsInHanded {} Tryd.checked os 3 .any (fun w args => (Rows.fnExactScanSpec.pre enc Tryd.prog Tryd.f3 [] false w args ∧ laidMetH Tryd.prog laid15 w) ∧ sizedMet enc Tryd.prog Tryd.f3 (OpenSpec.ofChange Rows.fnExactScanSpec) false w args)
      (Rows.fnExactScanSpec.post enc Tryd.prog Tryd.f3 false true false false) := by
  refine returnsInHanded_of_change_and (C := Tryd.checked) (X := fun w _ => laidMetH Tryd.prog laid15 w) (fun _ _ _ hh h => h.of_heap hh) own started (by kernel_rfl) Tryd.func3
    (ChangeSpec.witness_shaped (enc := enc) (C := Tryd.checked) (os := os) (X := fun w _ => laidMetH Tryd.prog laid15 w) false (World.doorLaid Tryd.prog 307 os) #[.string ByteArray.empty] 8 rfl (World.shaped_of_RefB (by kernel_rfl) (by kernel_rfl)) (by kernel_rfl) (by kernel_rfl) (by kernel_rfl) (door_met os _)) ?_
  intro W base args ds gs before hval0 hW _ _ hL _
  have hval : ∀ (j : Nat) t v, Tryd.f3.params[j]? = some t → args[j]? = some v → Value.okWide Tryd.prog W .any base t v := hval0
  have hW' := hW
  obtain ⟨p, q, hA0, hV0, rfl, hfz, hnd⟩ := hW
  have hA : DataW.TrodAll enc Tryd.prog W 0 (fun _ => true) true Tryd.f3.params.toList args.toList ds p := hA0
  have hV : DataW.TrodVars enc Tryd.prog W (fun _ => true) ["loop.example/s01308/impl.errSize", "loop.example/s01308/impl.errToken", "loop.example/s01308/impl.errByte", "loop.example/s01308/impl.errSyntax", "loop.example/s01308/impl.errWidth", "loop.example/s01308/impl.errDepth", "loop.example/s01308/impl.errName", "loop.example/s01308/impl.errAgain", "loop.example/s01308/impl.errType"] gs q := hV0
  rw [Tryd.params3] at hA hval
  obtain ⟨v0, d0, rfl, rfl, h0⟩ := trodAll_one hA
  obtain ⟨s, rfl, rfl, rfl, ws⟩ := open_string Tryd.underlying9 (hval 0 9 v0 rfl rfl) h0
  obtain ⟨aS, aB, aT, a_errSyntax, a_errWidth, a_errDepth, a_errName, a_errAgain, a_errType, S, x_errSize, x_errToken, x_errByte, x_errSyntax, x_errWidth, x_errDepth, x_errName, x_errAgain, x_errType⟩ := snt_of_laid hL
  obtain ⟨rfl, rfl⟩ := hV.unique (vars_read9 enc x_errSize x_errToken x_errByte x_errSyntax x_errWidth x_errDepth x_errName x_errAgain x_errType trivial trivial trivial trivial trivial trivial trivial trivial trivial _)
  clear hA0 hV0 hval0
  have big := S.big
  refine (fnExactScan_walk s W S ws).mono fun e W' ⟨he, bel⟩ => ?_
  subst he
  exact ⟨_, rfl, _, _, _, [], [], [.cell 0 0, .cell 7 0, .cell 6 0, .cell 8 0, .cell 2 0, .cell 9 0, .cell 10 0, .cell 11 0, .cell 12 0], hW', trodAll_mk1 (shut_bool Tryd.underlying4 _), trodAll_mk1 (shut_string Tryd.underlying9 ws), vars_read9 enc (var?_below bel g_errSize (by omega) x_errSize) (var?_below bel g_errToken (by omega) x_errToken) (var?_below bel g_errByte (by omega) x_errByte) (var?_below bel g_errSyntax (by omega) x_errSyntax) (var?_below bel g_errWidth (by omega) x_errWidth) (var?_below bel g_errDepth (by omega) x_errDepth) (var?_below bel g_errName (by omega) x_errName) (var?_below bel g_errAgain (by omega) x_errAgain) (var?_below bel g_errType (by omega) x_errType) trivial trivial trivial trivial trivial trivial trivial trivial trivial _, bel.frame _, fun h => by cases h⟩

theorem over : Rows.FnExactScanSaid :=
  OpenClaim.holds_of_wide 3 Tryd.f3 rfl rfl rfl rfl rfl rfl rfl ⟨rfl, rfl, rfl, rfl, rfl⟩ rfl rfl rfl rfl rfl (by kernel_rfl) Tryd.func3 (by kernel_rfl)
    (of_decide_eq_true (by kernel_rfl)) (by unfold Func.isWrapper; first | (rw [if_pos (by decide +kernel)]; kernel_rfl) | (rw [if_neg (by decide +kernel)]; exact ⟨rfl, rfl⟩))
    (fun os started H enc _ => lifted os started H enc)

theorem card : Rows.FnExactScanCardSaid :=
  Claim7.holds_tied_plain_at .later [] [.data, .data, .data, .handle, .sentinel, .sentinel, .sentinel, .sentinel, .sentinel, .sentinel, .sentinel, .sentinel, .sentinel, .sentinel, .sentinel] true (true, "3633454b511c9dc28eead32779acb532598d8c459c4d7d3dfb6322787bf9eacf") true
    over (fun _ h => by cases h) (by kernel_rfl) (fun _ h => by cases h) fnExactScan_row_tie rfl ⟨rfl, rfl⟩ (by kernel_rfl) rfl
    (fun f fn hf hfn => by
      obtain rfl : f = 3 := Option.some.inj ((show Tryd.prog.funcNamed "loop.example/s01308/laws.FnExactScan" = some 3 by kernel_rfl).symm.trans hf) |>.symm
      obtain rfl : fn = Tryd.f3 := (Option.some.inj (Tryd.func3.symm.trans hfn)).symm
      exact ⟨by kernel_rfl, fun j t ht => by
        rw [Tryd.params3] at ht
        have hm : t ∈ [9] := by simpa using Array.mem_of_getElem? ht
        have hall : ([9].all fun u => !Tryd.prog.wantsStandIn u) = true := by kernel_rfl
        exact (show Tryd.prog.wantsStandIn t = false by simpa using List.all_eq_true.1 hall t hm)⟩)
    (by kernel_rfl)

end Go.Proofs.YthndlhlafkldjacDoor.fnExactScanDone

namespace Go.Proofs.YthndlhlafkldjacDoor
theorem fnExactScan_holds : Rows.FnExactScanCardSaid := fnExactScanDone.card
end Go.Proofs.YthndlhlafkldjacDoor

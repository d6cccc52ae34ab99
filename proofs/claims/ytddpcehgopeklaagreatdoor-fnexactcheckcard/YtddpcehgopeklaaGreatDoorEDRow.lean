/-
  FnExactCheck: the row, and its card (written by mkedrow.py). Own work.
-/
import Derived.Test.YtddpcehgopeklaaGreatDoorMXBT
import Derived.Test.YtddpcehgopeklaaGreatDoorMXBP
import Derived.Test.YtddpcehgopeklaaGreatDoorTie
import Derived.Test.YtddpcehgopeklaaGreatDoorCards
import Derived.WalkKit
import Derived.ProofKit
import Derived.OpenShut
import Derived.OpenVars
import Derived.LaidMore
import Derived.LaidHandle
import Derived.Stop.LaidErr
import Derived.Stop.Joined
import Derived.SevenTiedAt
import Derived.ChangeOld
import Derived.Below
namespace Go.Proofs.YtddpcehgopeklaaGreatDoor.fnExactCheckDone
open Go.ChangeShapes Go.WideShapes Go.ChangeAt Go.RowKit
set_option linter.unusedVariables false
set_option maxRecDepth 100000

theorem own : ownKnob Tryz.prog.godebug = none := by kernel_rfl
theorem laidOut : laidOutB Tryz.prog = true := by kernel_rfl

abbrev laid14 : List (String × DataW Unit) := [("errors.errorType", Rows.laid_errors_errorType), ("loop.example/s01308/impl.errWidth", Rows.laid_loop_example_s01308_impl_errWidth), ("loop.example/s01308/impl.errShape", Rows.laid_loop_example_s01308_impl_errShape), ("loop.example/s01308/impl.errSize", Rows.laid_loop_example_s01308_impl_errSize), ("loop.example/s01308/impl.errByte", Rows.laid_loop_example_s01308_impl_errByte), ("loop.example/s01308/impl.errToken", Rows.laid_loop_example_s01308_impl_errToken), ("loop.example/s01308/impl.errSyntax", Rows.laid_loop_example_s01308_impl_errSyntax), ("loop.example/s01308/impl.errDepth", Rows.laid_loop_example_s01308_impl_errDepth), ("loop.example/s01308/impl.errName", Rows.laid_loop_example_s01308_impl_errName), ("loop.example/s01308/impl.errAgain", Rows.laid_loop_example_s01308_impl_errAgain), ("loop.example/s01308/impl.errType", Rows.laid_loop_example_s01308_impl_errType), ("loop.example/s01308/impl.binaryOperators", Rows.laid_loop_example_s01308_impl_binaryOperators), ("loop.example/s01308/impl.attributes", Rows.laid_loop_example_s01308_impl_attributes), ("loop.example/s01308/impl.signatures", Rows.laid_loop_example_s01308_impl_signatures)]
abbrev plain13 : List (String × DataW Unit) := [("loop.example/s01308/impl.errWidth", Rows.laid_loop_example_s01308_impl_errWidth), ("loop.example/s01308/impl.errShape", Rows.laid_loop_example_s01308_impl_errShape), ("loop.example/s01308/impl.errSize", Rows.laid_loop_example_s01308_impl_errSize), ("loop.example/s01308/impl.errByte", Rows.laid_loop_example_s01308_impl_errByte), ("loop.example/s01308/impl.errToken", Rows.laid_loop_example_s01308_impl_errToken), ("loop.example/s01308/impl.errSyntax", Rows.laid_loop_example_s01308_impl_errSyntax), ("loop.example/s01308/impl.errDepth", Rows.laid_loop_example_s01308_impl_errDepth), ("loop.example/s01308/impl.errName", Rows.laid_loop_example_s01308_impl_errName), ("loop.example/s01308/impl.errAgain", Rows.laid_loop_example_s01308_impl_errAgain), ("loop.example/s01308/impl.errType", Rows.laid_loop_example_s01308_impl_errType), ("loop.example/s01308/impl.binaryOperators", Rows.laid_loop_example_s01308_impl_binaryOperators), ("loop.example/s01308/impl.attributes", Rows.laid_loop_example_s01308_impl_attributes), ("loop.example/s01308/impl.signatures", Rows.laid_loop_example_s01308_impl_signatures)]

/-- The door's own heap meets the condition. -/
theorem door_met (os : Os) (args : Array Value) : laidMetH Tryz.prog laid14 ((World.doorLaid Tryz.prog 260 os).forCall (fun _ _ => 0) ⟨#[], args, []⟩).memory :=
  laidMetH_of_parts3 (fuel := 8) (laidMet_of_run' 8 (by kernel_rfl) (by kernel_rfl)) (by kernel_rfl) (by kernel_rfl)

theorem laidMet_tail {P : Program} {x : String × DataW Unit} {l : List (String × DataW Unit)} {W : World} (h : laidMet P (x :: l) W) : laidMet P l W := by
  obtain ⟨ps, hl, hnd, hr⟩ := h
  obtain ⟨n, d⟩ := x
  obtain ⟨g, t, cs, f, p, q, h1, h2, h3, h4, h5, rfl⟩ := hl
  exact ⟨q, h5, (List.nodup_append.1 hnd).2.1, fun b off hm => hr b off (List.mem_append_right _ hm)⟩

theorem lt_of_var {P : Program} {W : World} {n : String} {g : Nat} {cs : Array Value} (hg : P.globalNamed n = some g) (h : W.var? P n = some cs) : g < W.heap.size := by
  rcases Nat.lt_or_ge g W.heap.size with k | k
  · exact k
  · unfold World.var? at h
    rw [hg] at h
    simp [Array.getElem?_eq_none k] at h

theorem row66 : ∀ u, Tryz.prog.typeName? 3 u = some "*errors.errorString" → u = 224 :=
  typeName_ptr_named (nm := "errors.errorString") (by kernel_rfl) (by kernel_rfl) (by decide)
theorem cells91 : Tryz.prog.cellsOf 245 = 1 := by kernel_rfl
theorem cells9 : Tryz.prog.cellsOf 9 = 1 := by kernel_rfl

/-- one sentinel of the list -/
theorem laid_one {W : World} {n : String} {text : List UInt8} {g : Nat} {cs : Array Value} {f : Nat} {p : List MemPlace} {ps : List MemPlace} (hg : Tryz.prog.globalNamed n = some g) (hv : W.var? Tryz.prog n = some cs)
    (hd : DataW.trod (fun _ => ()) Tryz.prog W 0 (fun _ => true) false f 59 cs.toList = some (.iface "*errors.errorString" (.ptr (.agg [.lit (.string text)])), p))
    (hsub : ∀ x ∈ MemPlace.row ⟨g, 0, none⟩ cs.size ++ p, x ∈ ps) (hrows : ∀ b off, MemPlace.cell b off ∈ ps → (∃ c t, W.heap[b]? = some (.cells c t (0, 0))) ∧ ∀ u v, W.cell? ⟨b, off, none⟩ = some (.iface u v) → Value.okWide Tryz.prog W .any 0 u v) :
    ∃ a, cs = #[.iface 224 (.pointer (some a))] ∧ p = MemPlace.row a 1 ∧ (∃ c t, W.heap[a.block]? = some (.cells c t (0, 0))) ∧ W.cell? ⟨g, 0, none⟩ = some (.iface 224 (.pointer (some a))) := by
  obtain ⟨l⟩ := cs
  have ok : ∀ u v, l = [.iface u v] → Value.okWide Tryz.prog W .any 0 u v := fun u v e => by
    subst e
    exact (hrows g 0 (hsub _ (by simp [MemPlace.row]))).2 u v (by simpa using World.var?_cell hg hv 0)
  obtain ⟨a, s, rfl, hc, _, _, rfl⟩ := errorString_of_trod Tryz.underlying59 row66 Tryz.underlying224 Tryz.underlying245 rfl rfl Tryz.underlying9 cells91 cells9 hd ok
  exact ⟨a, rfl, rfl, (hrows a.block a.off (hsub _ (by simp [MemPlace.row]))).1, by simpa using World.var?_cell hg hv 0⟩

theorem g_errWidth : Tryz.prog.globalNamed "loop.example/s01308/impl.errWidth" = some 7 := by kernel_rfl
theorem t_errWidth : (Tryz.prog.globals[7]?).map (·.type) = some 59 := by kernel_rfl
theorem g_errShape : Tryz.prog.globalNamed "loop.example/s01308/impl.errShape" = some 0 := by kernel_rfl
theorem t_errShape : (Tryz.prog.globals[0]?).map (·.type) = some 59 := by kernel_rfl
theorem g_errSize : Tryz.prog.globalNamed "loop.example/s01308/impl.errSize" = some 3 := by kernel_rfl
theorem t_errSize : (Tryz.prog.globals[3]?).map (·.type) = some 59 := by kernel_rfl
theorem g_errByte : Tryz.prog.globalNamed "loop.example/s01308/impl.errByte" = some 4 := by kernel_rfl
theorem t_errByte : (Tryz.prog.globals[4]?).map (·.type) = some 59 := by kernel_rfl
theorem g_errToken : Tryz.prog.globalNamed "loop.example/s01308/impl.errToken" = some 5 := by kernel_rfl
theorem t_errToken : (Tryz.prog.globals[5]?).map (·.type) = some 59 := by kernel_rfl
theorem g_errSyntax : Tryz.prog.globalNamed "loop.example/s01308/impl.errSyntax" = some 6 := by kernel_rfl
theorem t_errSyntax : (Tryz.prog.globals[6]?).map (·.type) = some 59 := by kernel_rfl
theorem g_errDepth : Tryz.prog.globalNamed "loop.example/s01308/impl.errDepth" = some 8 := by kernel_rfl
theorem t_errDepth : (Tryz.prog.globals[8]?).map (·.type) = some 59 := by kernel_rfl
theorem g_errName : Tryz.prog.globalNamed "loop.example/s01308/impl.errName" = some 9 := by kernel_rfl
theorem t_errName : (Tryz.prog.globals[9]?).map (·.type) = some 59 := by kernel_rfl
theorem g_errAgain : Tryz.prog.globalNamed "loop.example/s01308/impl.errAgain" = some 10 := by kernel_rfl
theorem t_errAgain : (Tryz.prog.globals[10]?).map (·.type) = some 59 := by kernel_rfl
theorem g_errType : Tryz.prog.globalNamed "loop.example/s01308/impl.errType" = some 11 := by kernel_rfl
theorem t_errType : (Tryz.prog.globals[11]?).map (·.type) = some 59 := by kernel_rfl

/-- ten sentinels in a row -/
theorem laid_ten {W : World} {l : List (String × DataW Unit)} (h : laidMet Tryz.prog (("loop.example/s01308/impl.errWidth", Rows.laid_loop_example_s01308_impl_errWidth) :: ("loop.example/s01308/impl.errShape", Rows.laid_loop_example_s01308_impl_errShape) :: ("loop.example/s01308/impl.errSize", Rows.laid_loop_example_s01308_impl_errSize) :: ("loop.example/s01308/impl.errByte", Rows.laid_loop_example_s01308_impl_errByte) :: ("loop.example/s01308/impl.errToken", Rows.laid_loop_example_s01308_impl_errToken) :: ("loop.example/s01308/impl.errSyntax", Rows.laid_loop_example_s01308_impl_errSyntax) :: ("loop.example/s01308/impl.errDepth", Rows.laid_loop_example_s01308_impl_errDepth) :: ("loop.example/s01308/impl.errName", Rows.laid_loop_example_s01308_impl_errName) :: ("loop.example/s01308/impl.errAgain", Rows.laid_loop_example_s01308_impl_errAgain) :: ("loop.example/s01308/impl.errType", Rows.laid_loop_example_s01308_impl_errType) :: l) W) :
    ∃ a_errWidth a_errShape a_errSize a_errByte a_errToken a_errSyntax a_errDepth a_errName a_errAgain a_errType : Addr, (W.var? Tryz.prog "loop.example/s01308/impl.errWidth" = some #[.iface 224 (.pointer (some a_errWidth))] ∧ W.var? Tryz.prog "loop.example/s01308/impl.errShape" = some #[.iface 224 (.pointer (some a_errShape))] ∧ W.var? Tryz.prog "loop.example/s01308/impl.errSize" = some #[.iface 224 (.pointer (some a_errSize))] ∧ W.var? Tryz.prog "loop.example/s01308/impl.errByte" = some #[.iface 224 (.pointer (some a_errByte))] ∧ W.var? Tryz.prog "loop.example/s01308/impl.errToken" = some #[.iface 224 (.pointer (some a_errToken))] ∧ W.var? Tryz.prog "loop.example/s01308/impl.errSyntax" = some #[.iface 224 (.pointer (some a_errSyntax))] ∧ W.var? Tryz.prog "loop.example/s01308/impl.errDepth" = some #[.iface 224 (.pointer (some a_errDepth))] ∧ W.var? Tryz.prog "loop.example/s01308/impl.errName" = some #[.iface 224 (.pointer (some a_errName))] ∧ W.var? Tryz.prog "loop.example/s01308/impl.errAgain" = some #[.iface 224 (.pointer (some a_errAgain))] ∧ W.var? Tryz.prog "loop.example/s01308/impl.errType" = some #[.iface 224 (.pointer (some a_errType))]) ∧ (W.cell? ⟨7, 0, none⟩ = some (.iface 224 (.pointer (some a_errWidth))) ∧ W.cell? ⟨0, 0, none⟩ = some (.iface 224 (.pointer (some a_errShape))) ∧ W.cell? ⟨3, 0, none⟩ = some (.iface 224 (.pointer (some a_errSize))) ∧ W.cell? ⟨4, 0, none⟩ = some (.iface 224 (.pointer (some a_errByte))) ∧ W.cell? ⟨5, 0, none⟩ = some (.iface 224 (.pointer (some a_errToken))) ∧ W.cell? ⟨6, 0, none⟩ = some (.iface 224 (.pointer (some a_errSyntax))) ∧ W.cell? ⟨8, 0, none⟩ = some (.iface 224 (.pointer (some a_errDepth))) ∧ W.cell? ⟨9, 0, none⟩ = some (.iface 224 (.pointer (some a_errName))) ∧ W.cell? ⟨10, 0, none⟩ = some (.iface 224 (.pointer (some a_errAgain))) ∧ W.cell? ⟨11, 0, none⟩ = some (.iface 224 (.pointer (some a_errType)))) ∧ (∀ a ∈ [a_errSize, a_errByte, a_errToken, a_errSyntax, a_errWidth, a_errDepth, a_errName, a_errAgain, a_errType], ∃ c t, W.heap[a.block]? = some (.cells c t (0, 0))) ∧ ([a_errSize, a_errByte, a_errToken, a_errSyntax, a_errWidth, a_errDepth, a_errName, a_errAgain, a_errType] : List Addr).Nodup := by
  obtain ⟨ps, ⟨g0, t0, cs0, f0, p0, q0, hg0, ht0, hv0, hd0, ⟨g1, t1, cs1, f1, p1, q1, hg1, ht1, hv1, hd1, ⟨g2, t2, cs2, f2, p2, q2, hg2, ht2, hv2, hd2, ⟨g3, t3, cs3, f3, p3, q3, hg3, ht3, hv3, hd3, ⟨g4, t4, cs4, f4, p4, q4, hg4, ht4, hv4, hd4, ⟨g5, t5, cs5, f5, p5, q5, hg5, ht5, hv5, hd5, ⟨g6, t6, cs6, f6, p6, q6, hg6, ht6, hv6, hd6, ⟨g7, t7, cs7, f7, p7, q7, hg7, ht7, hv7, hd7, ⟨g8, t8, cs8, f8, p8, q8, hg8, ht8, hv8, hd8, ⟨g9, t9, cs9, f9, p9, q9, hg9, ht9, hv9, hd9, hq, e9⟩, e8⟩, e7⟩, e6⟩, e5⟩, e4⟩, e3⟩, e2⟩, e1⟩, e0⟩, hnd, hrows⟩ := h
  obtain rfl := Option.some.inj (g_errWidth.symm.trans hg0)
  obtain rfl := Option.some.inj (t_errWidth.symm.trans ht0)
  obtain rfl := Option.some.inj (g_errShape.symm.trans hg1)
  obtain rfl := Option.some.inj (t_errShape.symm.trans ht1)
  obtain rfl := Option.some.inj (g_errSize.symm.trans hg2)
  obtain rfl := Option.some.inj (t_errSize.symm.trans ht2)
  obtain rfl := Option.some.inj (g_errByte.symm.trans hg3)
  obtain rfl := Option.some.inj (t_errByte.symm.trans ht3)
  obtain rfl := Option.some.inj (g_errToken.symm.trans hg4)
  obtain rfl := Option.some.inj (t_errToken.symm.trans ht4)
  obtain rfl := Option.some.inj (g_errSyntax.symm.trans hg5)
  obtain rfl := Option.some.inj (t_errSyntax.symm.trans ht5)
  obtain rfl := Option.some.inj (g_errDepth.symm.trans hg6)
  obtain rfl := Option.some.inj (t_errDepth.symm.trans ht6)
  obtain rfl := Option.some.inj (g_errName.symm.trans hg7)
  obtain rfl := Option.some.inj (t_errName.symm.trans ht7)
  obtain rfl := Option.some.inj (g_errAgain.symm.trans hg8)
  obtain rfl := Option.some.inj (t_errAgain.symm.trans ht8)
  obtain rfl := Option.some.inj (g_errType.symm.trans hg9)
  obtain rfl := Option.some.inj (t_errType.symm.trans ht9)
  subst e9
  subst e8
  subst e7
  subst e6
  subst e5
  subst e4
  subst e3
  subst e2
  subst e1
  subst e0
  obtain ⟨a_errWidth, rfl, rfl, r_errWidth, c_errWidth⟩ := laid_one g_errWidth hv0 hd0 (fun x hx => List.mem_append_left _ hx) hrows
  obtain ⟨a_errShape, rfl, rfl, r_errShape, c_errShape⟩ := laid_one g_errShape hv1 hd1 (fun x hx => List.mem_append_right _ (List.mem_append_left _ hx)) hrows
  obtain ⟨a_errSize, rfl, rfl, r_errSize, c_errSize⟩ := laid_one g_errSize hv2 hd2 (fun x hx => List.mem_append_right _ (List.mem_append_right _ (List.mem_append_left _ hx))) hrows
  obtain ⟨a_errByte, rfl, rfl, r_errByte, c_errByte⟩ := laid_one g_errByte hv3 hd3 (fun x hx => List.mem_append_right _ (List.mem_append_right _ (List.mem_append_right _ (List.mem_append_left _ hx)))) hrows
  obtain ⟨a_errToken, rfl, rfl, r_errToken, c_errToken⟩ := laid_one g_errToken hv4 hd4 (fun x hx => List.mem_append_right _ (List.mem_append_right _ (List.mem_append_right _ (List.mem_append_right _ (List.mem_append_left _ hx))))) hrows
  obtain ⟨a_errSyntax, rfl, rfl, r_errSyntax, c_errSyntax⟩ := laid_one g_errSyntax hv5 hd5 (fun x hx => List.mem_append_right _ (List.mem_append_right _ (List.mem_append_right _ (List.mem_append_right _ (List.mem_append_right _ (List.mem_append_left _ hx)))))) hrows
  obtain ⟨a_errDepth, rfl, rfl, r_errDepth, c_errDepth⟩ := laid_one g_errDepth hv6 hd6 (fun x hx => List.mem_append_right _ (List.mem_append_right _ (List.mem_append_right _ (List.mem_append_right _ (List.mem_append_right _ (List.mem_append_right _ (List.mem_append_left _ hx))))))) hrows
  obtain ⟨a_errName, rfl, rfl, r_errName, c_errName⟩ := laid_one g_errName hv7 hd7 (fun x hx => List.mem_append_right _ (List.mem_append_right _ (List.mem_append_right _ (List.mem_append_right _ (List.mem_append_right _ (List.mem_append_right _ (List.mem_append_right _ (List.mem_append_left _ hx)))))))) hrows
  obtain ⟨a_errAgain, rfl, rfl, r_errAgain, c_errAgain⟩ := laid_one g_errAgain hv8 hd8 (fun x hx => List.mem_append_right _ (List.mem_append_right _ (List.mem_append_right _ (List.mem_append_right _ (List.mem_append_right _ (List.mem_append_right _ (List.mem_append_right _ (List.mem_append_right _ (List.mem_append_left _ hx))))))))) hrows
  obtain ⟨a_errType, rfl, rfl, r_errType, c_errType⟩ := laid_one g_errType hv9 hd9 (fun x hx => List.mem_append_right _ (List.mem_append_right _ (List.mem_append_right _ (List.mem_append_right _ (List.mem_append_right _ (List.mem_append_right _ (List.mem_append_right _ (List.mem_append_right _ (List.mem_append_right _ (List.mem_append_left _ hx)))))))))) hrows
  refine ⟨a_errWidth, a_errShape, a_errSize, a_errByte, a_errToken, a_errSyntax, a_errDepth, a_errName, a_errAgain, a_errType, ⟨hv0, hv1, hv2, hv3, hv4, hv5, hv6, hv7, hv8, hv9⟩, ⟨c_errWidth, c_errShape, c_errSize, c_errByte, c_errToken, c_errSyntax, c_errDepth, c_errName, c_errAgain, c_errType⟩, fun a ha => ?_, ?_⟩
  · simp only [List.mem_cons, List.not_mem_nil, or_false] at ha
    rcases ha with rfl | rfl | rfl | rfl | rfl | rfl | rfl | rfl | rfl
    · exact r_errSize
    · exact r_errByte
    · exact r_errToken
    · exact r_errSyntax
    · exact r_errWidth
    · exact r_errDepth
    · exact r_errName
    · exact r_errAgain
    · exact r_errType
  · simp only [List.nodup_cons, List.mem_cons, List.not_mem_nil, or_false, not_or, not_false_eq_true, List.nodup_nil, and_true]
    refine ⟨⟨?_, ?_, ?_, ?_, ?_, ?_, ?_, ?_⟩, ⟨?_, ?_, ?_, ?_, ?_, ?_, ?_⟩, ⟨?_, ?_, ?_, ?_, ?_, ?_⟩, ⟨?_, ?_, ?_, ?_, ?_⟩, ⟨?_, ?_, ?_, ?_⟩, ⟨?_, ?_, ?_⟩, ⟨?_, ?_⟩, ?_⟩
    all_goals (rintro rfl; simp [MemPlace.row] at hnd)

theorem oneRow : ((List.range 257).filter fun t => Tryz.prog.rowNamed t [101, 114, 114, 111, 114]) = [59] := by kernel_rfl
theorem nTypes : Tryz.prog.types.size = 257 := by kernel_rfl
theorem rtNamed : (Tryz.prog.cutTypes.find? (·.1 == "internal/reflectlite.rtype")).map (·.2) = some 177 := by kernel_rfl
theorem etNamed : Tryz.prog.globalNamed "errors.errorType" = some 2 := by kernel_rfl

/-- the handle that errors.As asks for -/
theorem handle_of {W : World} (h : handlesMet Tryz.prog [("errors.errorType", Rows.laid_errors_errorType)] W) : W.cell? ⟨2, 0, none⟩ = some (.iface 177 (.agg #[.pointer (some ⟨14, 59, none⟩)])) := by
  obtain ⟨name, u, ty, e1, e2, e3, e4, e5⟩ := h _ (List.mem_singleton.2 rfl)
  have en : name = [101, 114, 114, 111, 114] := (Option.some.inj e1).symm
  subst en
  obtain rfl := Option.some.inj (rtNamed.symm.trans e2)
  have hm : ty ∈ (List.range 257).filter fun t => Tryz.prog.rowNamed t [101, 114, 114, 111, 114] := List.mem_filter.2 ⟨List.mem_range.2 (by rw [← nTypes]; exact e3), e4⟩
  rw [oneRow] at hm
  obtain rfl := List.mem_singleton.1 hm
  have hh : typeHandle Tryz.prog 59 = .pointer (some ⟨14, 59, none⟩) := by kernel_rfl
  rw [hh] at e5
  simpa using World.var?_cell etNamed e5 0

theorem laid_parts {W : World} (h : laidMetH Tryz.prog laid14 W) : laidMet Tryz.prog plain13 W ∧ handlesMet Tryz.prog [("errors.errorType", Rows.laid_errors_errorType)] W := h

theorem gSig : Tryz.prog.globalNamed "loop.example/s01308/impl.signatures" = some 13 := by kernel_rfl
theorem tSig : (Tryz.prog.globals[13]?).map (·.type) = some 223 := by kernel_rfl
theorem cellsSig : Tryz.prog.cellsOf 222 = 4 := by kernel_rfl
theorem cellsSigs : Tryz.prog.cellsOf 223 = 68 := by kernel_rfl
theorem gAtt : Tryz.prog.globalNamed "loop.example/s01308/impl.attributes" = some 1 := by kernel_rfl
theorem tAtt : (Tryz.prog.globals[1]?).map (·.type) = some 120 := by kernel_rfl
theorem cellsAtt : Tryz.prog.cellsOf 119 = 2 := by kernel_rfl
theorem cellsAtts : Tryz.prog.cellsOf 120 = 12 := by kernel_rfl

/-- a signature's cells, by its datum -/
theorem sig_cells {H : Type} {enc : TypeId × Value → H} {w : World} {spare : Nat → Bool} {held : Bool} {fuel : Nat} {l : List Value} {x0 x1 x2 x3 : Int} {p : List MemPlace}
    (h : DataW.trod enc Tryz.prog w 0 spare held fuel 222 l = some (.agg [.lit (.int .i64 x0), .lit (.int .i64 x1), .lit (.int .i64 x2), .lit (.int .i64 x3)], p)) : l = [.int .i64 x0, .int .i64 x1, .int .i64 x2, .int .i64 x3] := by
  obtain ⟨xs, n, _, hd, hcl, hlen, hx⟩ := DataW.trod_struct Tryz.underlying222 h
  rw [cellsSig] at hcl
  match l, hcl with
  | [c0, c1, c2, c3], _ =>
    have get : ∀ i, i < 4 → ∃ y, xs[i]? = some y := fun i hi => ⟨xs[i]'(by simp at hlen; omega), List.getElem?_eq_getElem _⟩
    obtain ⟨y0, e0⟩ := get 0 (by omega)
    obtain ⟨y1, e1⟩ := get 1 (by omega)
    obtain ⟨y2, e2⟩ := get 2 (by omega)
    obtain ⟨y3, e3⟩ := get 3 (by omega)
    have f0 : DataW.trod enc Tryz.prog w 0 spare held n 3 [c0] = some y0 := by
      have := (hx 0 _ rfl).trans e0
      simpa [cellsInt] using this
    have f1 : DataW.trod enc Tryz.prog w 0 spare held n 3 [c1] = some y1 := by
      have := (hx 1 _ rfl).trans e1
      simpa [cellsInt] using this
    have f2 : DataW.trod enc Tryz.prog w 0 spare held n 3 [c2] = some y2 := by
      have := (hx 2 _ rfl).trans e2
      simpa [cellsInt] using this
    have f3 : DataW.trod enc Tryz.prog w 0 spare held n 3 [c3] = some y3 := by
      have := (hx 3 _ rfl).trans e3
      simpa [cellsInt] using this
    obtain ⟨a0, k0, r0, _⟩ := DataW.trod_int Tryz.underlying3 f0
    obtain ⟨a1, k1, r1, _⟩ := DataW.trod_int Tryz.underlying3 f1
    obtain ⟨a2, k2, r2, _⟩ := DataW.trod_int Tryz.underlying3 f2
    obtain ⟨a3, k3, r3, _⟩ := DataW.trod_int Tryz.underlying3 f3
    have hm : xs.map (·.1) = [.lit (.int .i64 x0), .lit (.int .i64 x1), .lit (.int .i64 x2), .lit (.int .i64 x3)] := by
      have := congrArg Prod.fst hd
      simpa using this.symm
    have g0 : (xs.map (·.1))[0]? = some y0.1 := by rw [List.getElem?_map, e0]; rfl
    have g1 : (xs.map (·.1))[1]? = some y1.1 := by rw [List.getElem?_map, e1]; rfl
    have g2 : (xs.map (·.1))[2]? = some y2.1 := by rw [List.getElem?_map, e2]; rfl
    have g3 : (xs.map (·.1))[3]? = some y3.1 := by rw [List.getElem?_map, e3]; rfl
    rw [hm] at g0 g1 g2 g3
    rw [r0] at g0
    rw [r1] at g1
    rw [r2] at g2
    rw [r3] at g3
    simp only [List.cons.injEq, and_true] at k0 k1 k2 k3
    simp at g0 g1 g2 g3
    subst g0 g1 g2 g3
    rw [k0, k1, k2, k3]

theorem att_cells {H : Type} {enc : TypeId × Value → H} {w : World} {spare : Nat → Bool} {held : Bool} {fuel : Nat} {l : List Value} {y : Int} {s : List UInt8} {p : List MemPlace}
    (h : DataW.trod enc Tryz.prog w 0 spare held fuel 119 l = some (.agg [.lit (.string s), .lit (.int .i64 y)], p)) : l = [.string ⟨s.toArray⟩, .int .i64 y] := by
  obtain ⟨xs, n, _, hd, hcl, hlen, hx⟩ := DataW.trod_struct Tryz.underlying119 h
  rw [cellsAtt] at hcl
  match l, hcl with
  | [c0, c1], _ =>
    have get : ∀ i, i < 2 → ∃ y, xs[i]? = some y := fun i hi => ⟨xs[i]'(by simp at hlen; omega), List.getElem?_eq_getElem _⟩
    obtain ⟨y0, e0⟩ := get 0 (by omega)
    obtain ⟨y1, e1⟩ := get 1 (by omega)
    have f0 : DataW.trod enc Tryz.prog w 0 spare held n 9 [c0] = some y0 := by
      have := (hx 0 _ rfl).trans e0
      simpa [cellsStr] using this
    have f1 : DataW.trod enc Tryz.prog w 0 spare held n 3 [c1] = some y1 := by
      have := (hx 1 _ rfl).trans e1
      simpa [cellsInt] using this
    obtain ⟨a0, k0, r0, _⟩ := DataW.trod_string Tryz.underlying9 f0
    obtain ⟨a1, k1, r1, _⟩ := DataW.trod_int Tryz.underlying3 f1
    have hm : xs.map (·.1) = [.lit (.string s), .lit (.int .i64 y)] := by
      have := congrArg Prod.fst hd
      simpa using this.symm
    have g0 : (xs.map (·.1))[0]? = some y0.1 := by rw [List.getElem?_map, e0]; rfl
    have g1 : (xs.map (·.1))[1]? = some y1.1 := by rw [List.getElem?_map, e1]; rfl
    rw [hm] at g0 g1
    rw [r0] at g0
    rw [r1] at g1
    simp only [List.cons.injEq, and_true] at k0 k1
    simp at g0 g1
    subst g1
    rw [k0, k1, g0]

def sigA (i : Nat) : Int × Int × Int × Int := sigs.getD i (0, 0, 0, 0)

def attA (i : Nat) : ByteArray × Int := match i with | 0 => (⟨#[99, 108, 105, 101, 110, 116]⟩, 3) | 1 => (⟨#[117, 115, 101, 114]⟩, 3) | 2 => (⟨#[108, 101, 118, 101, 108]⟩, 2) | 3 => (⟨#[110, 111, 119]⟩, 2) | 4 => (⟨#[97, 115, 107, 101, 100]⟩, 4) | _ => (⟨#[97, 103, 114, 101, 101, 100]⟩, 4)

theorem attV_rowA : ∀ k, k < 6 → attV.extract (k * 2) (k * 2 + 2) = #[.string (attA k).1, .int .i64 (attA k).2]
  | 0, _ | 1, _ | 2, _ | 3, _ | 4, _ | 5, _ => rfl
  | n + 6, h => absurd h (by omega)

theorem sig_at : ∀ i, i < 17 → ∃ R : List (DataW Unit), Rows.laid_loop_example_s01308_impl_signatures = .agg R ∧ R[i]? = some (.agg [.lit (.int .i64 (sigA i).1), .lit (.int .i64 (sigA i).2.1), .lit (.int .i64 (sigA i).2.2.1), .lit (.int .i64 (sigA i).2.2.2)])
  | 0, _ | 1, _ | 2, _ | 3, _ | 4, _ | 5, _ | 6, _ | 7, _ | 8, _ | 9, _ | 10, _ | 11, _ | 12, _ | 13, _ | 14, _ | 15, _ | 16, _ => ⟨_, rfl, rfl⟩
  | n + 17, h => absurd h (by omega)

theorem att_at : ∀ i, i < 6 → ∃ R : List (DataW Unit), Rows.laid_loop_example_s01308_impl_attributes = .agg R ∧ R[i]? = some (.agg [.lit (.string (attA i).1.data.toList), .lit (.int .i64 (attA i).2)])
  | 0, _ | 1, _ | 2, _ | 3, _ | 4, _ | 5, _ => ⟨_, rfl, rfl⟩
  | n + 6, h => absurd h (by omega)

theorem sig_of_laid {W : World} {l : List (String × DataW Unit)} (h : laidMet Tryz.prog (("loop.example/s01308/impl.signatures", Rows.laid_loop_example_s01308_impl_signatures) :: l) W) : 13 < W.heap.size ∧ ∀ k, W.cell? ⟨13, k, none⟩ = sigV[k]? := by
  obtain ⟨ps, ⟨g', t', cs, fuel, p, q, hg', ht', hvar, hd, _, _⟩, _⟩ := h
  obtain rfl := Option.some.inj (gSig.symm.trans hg')
  obtain rfl := Option.some.inj (tSig.symm.trans ht')
  obtain ⟨xs, m, _, hx, hcl, hlen, hel⟩ := DataW.trod_array Tryz.underlying223 hd
  rw [cellsSigs] at hcl
  rw [cellsSig] at hel
  have hrow : ∀ i, i < 17 → (cs.toList.drop (i * 4)).take 4 = [.int .i64 (sigA i).1, .int .i64 (sigA i).2.1, .int .i64 (sigA i).2.2.1, .int .i64 (sigA i).2.2.2] := fun i hi => by
    obtain ⟨R, hR, hRi⟩ := sig_at i hi
    have hm : xs.map (·.1) = R := by
      have := congrArg Prod.fst hx
      rw [hR] at this
      simpa using this.symm
    obtain ⟨y, hy⟩ : ∃ y, xs[i]? = some y := ⟨xs[i]'(by omega), List.getElem?_eq_getElem _⟩
    have h1 := (hel i hi).trans hy
    have h2 : (xs.map (·.1))[i]? = some y.1 := by rw [List.getElem?_map, hy]; rfl
    rw [hm, hRi] at h2
    have h3 : y = ((.agg [.lit (.int .i64 (sigA i).1), .lit (.int .i64 (sigA i).2.1), .lit (.int .i64 (sigA i).2.2.1), .lit (.int .i64 (sigA i).2.2.2)]), y.2) := Prod.ext (Option.some.inj h2).symm rfl
    rw [h3] at h1
    have := sig_cells h1
    rw [this]
  have hall : ∀ k : Nat, cs[k]? = sigV[k]? := fun k => by
    by_cases hk : k < 68
    · have hi : k / 4 < 17 := by omega
      have e1 := hrow (k / 4) hi
      have e2 := sigV_row (k / 4) hi
      have a1 : ((cs.toList.drop (k / 4 * 4)).take 4)[k % 4]? = cs[k]? := by
        rw [List.getElem?_take, if_pos (by omega), List.getElem?_drop, show k / 4 * 4 + k % 4 = k by omega, Array.getElem?_toList]
      have a2 : (sigV.extract (k / 4 * 4) (k / 4 * 4 + 4))[k % 4]? = sigV[k]? := by
        have hb : sigV.size = 68 := rfl
        rw [Array.getElem?_extract, if_pos (by rw [hb]; omega), show k / 4 * 4 + k % 4 = k by omega]
      rw [← a1, ← a2, e1, e2]
      simp [sigA]
    · have hb : sigV.size = 68 := rfl
      rw [Array.getElem?_eq_none (by rw [← Array.length_toList, hcl]; omega), Array.getElem?_eq_none (by rw [hb]; omega)]
  have hheap : ∃ t fr, W.heap[13]? = some (.cells cs t fr) := by
    simp only [World.var?, gSig, Option.bind_some] at hvar
    split at hvar
    · rename_i c t fr hb
      simp only [Option.some.injEq] at hvar
      subst hvar
      exact ⟨t, fr, hb⟩
    · cases hvar
  obtain ⟨t, fr, hb⟩ := hheap
  exact ⟨(Array.getElem?_eq_some_iff.1 hb).1, fun k => (cell_of_row W _ k cs t fr hb).trans (hall k)⟩

theorem att_of_laid {W : World} {l : List (String × DataW Unit)} (h : laidMet Tryz.prog (("loop.example/s01308/impl.attributes", Rows.laid_loop_example_s01308_impl_attributes) :: l) W) : 1 < W.heap.size ∧ ∀ k, W.cell? ⟨1, k, none⟩ = attV[k]? := by
  obtain ⟨ps, ⟨g', t', cs, fuel, p, q, hg', ht', hvar, hd, _, _⟩, _⟩ := h
  obtain rfl := Option.some.inj (gAtt.symm.trans hg')
  obtain rfl := Option.some.inj (tAtt.symm.trans ht')
  obtain ⟨xs, m, _, hx, hcl, hlen, hel⟩ := DataW.trod_array Tryz.underlying120 hd
  rw [cellsAtts] at hcl
  rw [cellsAtt] at hel
  have hrow : ∀ i, i < 6 → (cs.toList.drop (i * 2)).take 2 = [.string (attA i).1, .int .i64 (attA i).2] := fun i hi => by
    obtain ⟨R, hR, hRi⟩ := att_at i hi
    have hm : xs.map (·.1) = R := by
      have := congrArg Prod.fst hx
      rw [hR] at this
      simpa using this.symm
    obtain ⟨y, hy⟩ : ∃ y, xs[i]? = some y := ⟨xs[i]'(by omega), List.getElem?_eq_getElem _⟩
    have h1 := (hel i hi).trans hy
    have h2 : (xs.map (·.1))[i]? = some y.1 := by rw [List.getElem?_map, hy]; rfl
    rw [hm, hRi] at h2
    have h3 : y = ((.agg [.lit (.string (attA i).1.data.toList), .lit (.int .i64 (attA i).2)]), y.2) := Prod.ext (Option.some.inj h2).symm rfl
    rw [h3] at h1
    have := att_cells h1
    rw [this]
  have hall : ∀ k : Nat, cs[k]? = attV[k]? := fun k => by
    by_cases hk : k < 12
    · have hi : k / 2 < 6 := by omega
      have e1 := hrow (k / 2) hi
      have e2 := attV_rowA (k / 2) hi
      have a1 : ((cs.toList.drop (k / 2 * 2)).take 2)[k % 2]? = cs[k]? := by
        rw [List.getElem?_take, if_pos (by omega), List.getElem?_drop, show k / 2 * 2 + k % 2 = k by omega, Array.getElem?_toList]
      have a2 : (attV.extract (k / 2 * 2) (k / 2 * 2 + 2))[k % 2]? = attV[k]? := by
        have hb : attV.size = 12 := rfl
        rw [Array.getElem?_extract, if_pos (by rw [hb]; omega), show k / 2 * 2 + k % 2 = k by omega]
      rw [← a1, ← a2, e1, e2]
      simp
    · have hb : attV.size = 12 := rfl
      rw [Array.getElem?_eq_none (by rw [← Array.length_toList, hcl]; omega), Array.getElem?_eq_none (by rw [hb]; omega)]
  have hheap : ∃ t fr, W.heap[1]? = some (.cells cs t fr) := by
    simp only [World.var?, gAtt, Option.bind_some] at hvar
    split at hvar
    · rename_i c t fr hb
      simp only [Option.some.injEq] at hvar
      subst hvar
      exact ⟨t, fr, hb⟩
    · cases hvar
  obtain ⟨t, fr, hb⟩ := hheap
  exact ⟨(Array.getElem?_eq_some_iff.1 hb).1, fun k => (cell_of_row W _ k cs t fr hb).trans (hall k)⟩

theorem gBin : Tryz.prog.globalNamed "loop.example/s01308/impl.binaryOperators" = some 12 := by kernel_rfl
theorem tBin : (Tryz.prog.globals[12]?).map (·.type) = some 220 := by kernel_rfl
theorem cellsOp : Tryz.prog.cellsOf 214 = 3 := by kernel_rfl
theorem cellsTab : Tryz.prog.cellsOf 220 = 48 := by kernel_rfl

/-- an operator's cells, by its datum -/
theorem opr_cells {H : Type} {enc : TypeId × Value → H} {w : World} {spare : Nat → Bool} {held : Bool} {fuel : Nat} {l : List Value} {x y : Int} {s : List UInt8} {p : List MemPlace}
    (h : DataW.trod enc Tryz.prog w 0 spare held fuel 214 l = some (.agg [.lit (.int .i64 x), .lit (.int .i64 y), .lit (.string s)], p)) : l = [.int .i64 x, .int .i64 y, .string ⟨s.toArray⟩] := by
  obtain ⟨xs, n, _, hd, hcl, hlen, hx⟩ := DataW.trod_struct Tryz.underlying214 h
  rw [cellsOp] at hcl
  match l, hcl with
  | [c0, c1, c2], _ =>
    have get : ∀ i, i < 3 → ∃ y, xs[i]? = some y := fun i hi => ⟨xs[i]'(by simp at hlen; omega), List.getElem?_eq_getElem _⟩
    obtain ⟨y0, e0⟩ := get 0 (by omega)
    obtain ⟨y1, e1⟩ := get 1 (by omega)
    obtain ⟨y2, e2⟩ := get 2 (by omega)
    have f0 : DataW.trod enc Tryz.prog w 0 spare held n 3 [c0] = some y0 := by
      have := (hx 0 _ rfl).trans e0
      simpa [cellsInt] using this
    have f1 : DataW.trod enc Tryz.prog w 0 spare held n 3 [c1] = some y1 := by
      have := (hx 1 _ rfl).trans e1
      simpa [cellsInt] using this
    have f2 : DataW.trod enc Tryz.prog w 0 spare held n 9 [c2] = some y2 := by
      have := (hx 2 _ rfl).trans e2
      simpa [cellsStr] using this
    obtain ⟨a0, k0, r0, _⟩ := DataW.trod_int Tryz.underlying3 f0
    obtain ⟨a1, k1, r1, _⟩ := DataW.trod_int Tryz.underlying3 f1
    obtain ⟨a2, k2, r2, _⟩ := DataW.trod_string Tryz.underlying9 f2
    have hm : xs.map (·.1) = [.lit (.int .i64 x), .lit (.int .i64 y), .lit (.string s)] := by
      have := congrArg Prod.fst hd
      simpa using this.symm
    have g0 : (xs.map (·.1))[0]? = some y0.1 := by rw [List.getElem?_map, e0]; rfl
    have g1 : (xs.map (·.1))[1]? = some y1.1 := by rw [List.getElem?_map, e1]; rfl
    have g2 : (xs.map (·.1))[2]? = some y2.1 := by rw [List.getElem?_map, e2]; rfl
    rw [hm] at g0 g1 g2
    rw [r0] at g0
    rw [r1] at g1
    rw [r2] at g2
    simp only [List.cons.injEq, and_true] at k0 k1 k2
    simp at g0 g1 g2
    subst g0 g1
    rw [k0, k1, k2, g2]

theorem datum_at : ∀ i, i < 16 → ∃ R : List (DataW Unit), Rows.laid_loop_example_s01308_impl_binaryOperators = .agg R ∧ R[i]? = some (.agg [.lit (.int .i64 (opr i).op), .lit (.int .i64 (opr i).lv), .lit (.string (opr i).text.data.toList)])
  | 0, _ | 1, _ | 2, _ | 3, _ | 4, _ | 5, _ | 6, _ | 7, _ | 8, _ | 9, _ | 10, _ | 11, _ | 12, _ | 13, _ | 14, _ | 15, _ => ⟨_, rfl, rfl⟩
  | n + 16, h => absurd h (by omega)

theorem tab_of_laid {W : World} {l : List (String × DataW Unit)} (h : laidMet Tryz.prog (("loop.example/s01308/impl.binaryOperators", Rows.laid_loop_example_s01308_impl_binaryOperators) :: l) W) : TabOK W := by
  obtain ⟨ps, ⟨g', t', cs, fuel, p, q, hg', ht', hvar, hd, _, _⟩, _⟩ := h
  obtain rfl := Option.some.inj (gBin.symm.trans hg')
  obtain rfl := Option.some.inj (tBin.symm.trans ht')
  obtain ⟨xs, m, _, hx, hcl, hlen, hel⟩ := DataW.trod_array Tryz.underlying220 hd
  rw [cellsTab] at hcl
  rw [cellsOp] at hel
  have hrow : ∀ i, i < 16 → (cs.toList.drop (i * 3)).take 3 = [.int .i64 (opr i).op, .int .i64 (opr i).lv, .string (opr i).text] := fun i hi => by
    obtain ⟨R, hR, hRi⟩ := datum_at i hi
    have hm : xs.map (·.1) = R := by
      have := congrArg Prod.fst hx
      rw [hR] at this
      simpa using this.symm
    obtain ⟨y, hy⟩ : ∃ y, xs[i]? = some y := ⟨xs[i]'(by omega), List.getElem?_eq_getElem _⟩
    have h1 := (hel i hi).trans hy
    have h2 : (xs.map (·.1))[i]? = some y.1 := by rw [List.getElem?_map, hy]; rfl
    rw [hm, hRi] at h2
    have h3 : y = (.agg [.lit (.int .i64 (opr i).op), .lit (.int .i64 (opr i).lv), .lit (.string (opr i).text.data.toList)], y.2) := Prod.ext (Option.some.inj h2).symm rfl
    rw [h3] at h1
    have := opr_cells h1
    rw [this]
  have hall : ∀ k : Nat, cs[k]? = binV[k]? := fun k => by
    by_cases hk : k < 48
    · have hi : k / 3 < 16 := by omega
      have e1 := hrow (k / 3) hi
      have e2 := binV_row (k / 3) hi
      have a1 : ((cs.toList.drop (k / 3 * 3)).take 3)[k % 3]? = cs[k]? := by
        rw [List.getElem?_take, if_pos (by omega), List.getElem?_drop, show k / 3 * 3 + k % 3 = k by omega, Array.getElem?_toList]
      have a2 : (binV.extract (k / 3 * 3) (k / 3 * 3 + 3))[k % 3]? = binV[k]? := by
        have hb : binV.size = 48 := rfl
        rw [Array.getElem?_extract, if_pos (by rw [hb]; omega), show k / 3 * 3 + k % 3 = k by omega]
      rw [← a1, ← a2, e1, e2]
      simp
    · have hb : binV.size = 48 := rfl
      rw [Array.getElem?_eq_none (by rw [← Array.length_toList, hcl]; omega), Array.getElem?_eq_none (by rw [hb]; omega)]
  have hheap : ∃ t fr, W.heap[12]? = some (.cells cs t fr) := by
    simp only [World.var?, gBin, Option.bind_some] at hvar
    split at hvar
    · rename_i c t fr hb
      simp only [Option.some.injEq] at hvar
      subst hvar
      exact ⟨t, fr, hb⟩
    · cases hvar
  obtain ⟨t, fr, hb⟩ := hheap
  exact ⟨(Array.getElem?_eq_some_iff.1 hb).1, fun k => (cell_of_row W _ k cs t fr hb).trans (hall k)⟩

theorem env_of_laid {W : World} (h0 : laidMetH Tryz.prog laid14 W) : ∃ aX a1 a2 a3 a4 a5 a6 a7 a8 a9, Vok W a9 ∧ Sn9 W aX a1 a2 a3 a4 a5 a6 a7 a8 a9 ∧ TabOK W := by
  obtain ⟨hp, hh⟩ := laid_parts h0
  have gE := handle_of hh
  obtain ⟨a_errWidth, a_errShape, a_errSize, a_errByte, a_errToken, a_errSyntax, a_errDepth, a_errName, a_errAgain, a_errType, ⟨v_errWidth, v_errShape, v_errSize, v_errByte, v_errToken, v_errSyntax, v_errDepth, v_errName, v_errAgain, v_errType⟩, ⟨c_errWidth, c_errShape, c_errSize, c_errByte, c_errToken, c_errSyntax, c_errDepth, c_errName, c_errAgain, c_errType⟩, hrows, hnd⟩ := laid_ten hp
  have h3 := laidMet_tail (laidMet_tail (laidMet_tail (laidMet_tail (laidMet_tail (laidMet_tail (laidMet_tail (laidMet_tail (laidMet_tail (laidMet_tail hp)))))))))
  have hT := tab_of_laid h3
  have h4 := laidMet_tail h3
  obtain ⟨a1, a2⟩ := att_of_laid h4
  obtain ⟨s1, s2⟩ := sig_of_laid (laidMet_tail h4)
  exact ⟨a_errShape, a_errSize, a_errByte, a_errToken, a_errSyntax, a_errWidth, a_errDepth, a_errName, a_errAgain, a_errType, ⟨s1, s2, a1, a2, lt_of_var g_errType v_errType, c_errType⟩, ⟨c_errSize, c_errByte, c_errToken, c_errSyntax, c_errWidth, c_errDepth, c_errName, c_errAgain, c_errType, c_errShape, gE, by omega, hrows, hnd⟩, hT⟩

theorem all_vars {H : Type} {enc : TypeId × Value → H} {P : Program} {w : World} {spare : Nat → Bool} {n0 n1 n2 n3 n4 n5 n6 n7 n8 n9 n10 n11 n12 : String} : ∀ {gs : List (DataW H)} {ps : List MemPlace}, DataW.TrodVars enc P w spare [n0, n1, n2, n3, n4, n5, n6, n7, n8, n9, n10, n11, n12] gs ps → ∃ g0 g1 g2 g3 g4 g5 g6 g7 g8 g9 g10 g11 g12, gs = [g0, g1, g2, g3, g4, g5, g6, g7, g8, g9, g10, g11, g12]
  | [], _, h => by simp [DataW.TrodVars] at h
  | [_], _, h => by simp [DataW.TrodVars] at h
  | [_, _], _, h => by simp [DataW.TrodVars] at h
  | [_, _, _], _, h => by simp [DataW.TrodVars] at h
  | [_, _, _, _], _, h => by simp [DataW.TrodVars] at h
  | [_, _, _, _, _], _, h => by simp [DataW.TrodVars] at h
  | [_, _, _, _, _, _], _, h => by simp [DataW.TrodVars] at h
  | [_, _, _, _, _, _, _], _, h => by simp [DataW.TrodVars] at h
  | [_, _, _, _, _, _, _, _], _, h => by simp [DataW.TrodVars] at h
  | [_, _, _, _, _, _, _, _, _], _, h => by simp [DataW.TrodVars] at h
  | [_, _, _, _, _, _, _, _, _, _], _, h => by simp [DataW.TrodVars] at h
  | [_, _, _, _, _, _, _, _, _, _, _], _, h => by simp [DataW.TrodVars] at h
  | [_, _, _, _, _, _, _, _, _, _, _, _], _, h => by simp [DataW.TrodVars] at h
  | [g0, g1, g2, g3, g4, g5, g6, g7, g8, g9, g10, g11, g12], _, _ => ⟨g0, g1, g2, g3, g4, g5, g6, g7, g8, g9, g10, g11, g12, rfl⟩
  | _ :: _ :: _ :: _ :: _ :: _ :: _ :: _ :: _ :: _ :: _ :: _ :: _ :: _ :: _, _, h => by simp [DataW.TrodVars] at h

theorem lifted (os : Os) (started : os.Started) (H : Type) (enc : TypeId × Value → H) :
    ReturnsInHanded {} Tryz.checked os 3 .any (fun w args => (Rows.fnExactCheckSpec.pre enc Tryz.prog Tryz.f3 [] false w args ∧ laidMetH Tryz.prog laid14 w) ∧ sizedMet enc Tryz.prog Tryz.f3 (OpenSpec.ofChange Rows.fnExactCheckSpec) false w args)
      (Rows.fnExactCheckSpec.post enc Tryz.prog Tryz.f3 false true false false) := by
  refine returnsInHanded_of_change_and (C := Tryz.checked) (X := fun w _ => laidMetH Tryz.prog laid14 w) (fun _ _ _ hh h => h.of_heap hh) own started (by kernel_rfl) Tryz.func3
    (ChangeSpec.witness_shaped (enc := enc) (C := Tryz.checked) (os := os) (X := fun w _ => laidMetH Tryz.prog laid14 w) false (World.doorLaid Tryz.prog 260 os) #[.agg #[.slice none 0 0, .slice none 0 0]] 8 rfl (World.shaped_of_RefB (by kernel_rfl) (by kernel_rfl)) (by kernel_rfl) (by kernel_rfl) (by kernel_rfl) (door_met os _)) ?_
  intro W base args ds gs before hval0 hW _ _ hL _
  have hval : ∀ (j : Nat) t v, Tryz.f3.params[j]? = some t → args[j]? = some v → Value.okWide Tryz.prog W .any base t v := hval0
  have hW' := hW
  obtain ⟨p, q, hA0, hV0, rfl, hfz, hnd⟩ := hW
  have hA : DataW.TrodAll enc Tryz.prog W 0 (fun _ => true) true Tryz.f3.params.toList args.toList ds p := hA0
  have hV : DataW.TrodVars enc Tryz.prog W (fun _ => true) ["loop.example/s01308/impl.errShape", "loop.example/s01308/impl.binaryOperators", "loop.example/s01308/impl.attributes", "loop.example/s01308/impl.errType", "loop.example/s01308/impl.errName", "loop.example/s01308/impl.signatures", "loop.example/s01308/impl.errAgain", "loop.example/s01308/impl.errSize", "loop.example/s01308/impl.errByte", "loop.example/s01308/impl.errToken", "loop.example/s01308/impl.errSyntax", "loop.example/s01308/impl.errWidth", "loop.example/s01308/impl.errDepth"] gs q := hV0
  rw [Tryz.params3] at hA hval
  obtain ⟨v0, vs0, d0, ds0, p0, q0, hargs, rfl, rfl, h0, r0⟩ := trodAll_cons hA
  obtain ⟨rfl, rfl, rfl⟩ := trodAll_nil r0
  obtain rfl : args = #[v0] := by cases args; simp_all
  have k0 := h0
  have lt0 : ∀ x ∈ p0, x.block < W.heap.size := by obtain ⟨m, hm⟩ := k0; exact DataW.trod_lt m _ _ _ hm
  obtain ⟨a, b, n, c, m, d, N, L, rfl, hN, hLs, hnum⟩ := open_pol (hval 0 25 v0 rfl rfl) h0
  obtain ⟨u0, u1, u2, u3, u4, u5, u6, u7, u8, u9, u10, u11, u12, rfl⟩ := all_vars hV
  obtain ⟨aX, a1, a2, a3, a4, a5, a6, a7, a8, a9, hvo, hsn, htab⟩ := env_of_laid hL
  clear hA0 hV0 hval0
  refine (fnExactCheck_walk a b n c m d N L aX a1 a2 a3 a4 a5 a6 a7 a8 a9 W ⟨hN, hLs, htab, hvo, hsn⟩ hnum).mono fun e W' ⟨he, bel⟩ => ?_
  subst he
  exact ⟨_, rfl, _, _, _, [], _, _, hW', trodAll_mk1 (shut_bool Tryz.underlying4 _), (trodAll_cons_mk (Below.trod laidOut (by kernel_rfl) (of_decide_eq_true (by kernel_rfl)) k0 bel lt0) trodAll_mk0), Below.trodVars laidOut bel (by kernel_rfl) hV, bel.frame _, fun h => by cases h⟩

theorem over : Rows.FnExactCheckSaid :=
  OpenClaim.holds_of_wide 3 Tryz.f3 rfl rfl rfl rfl rfl rfl rfl ⟨rfl, rfl, rfl, rfl, rfl⟩ rfl rfl rfl rfl rfl (by kernel_rfl) Tryz.func3 (by kernel_rfl)
    (of_decide_eq_true (by kernel_rfl)) (by unfold Func.isWrapper; first | (rw [if_pos (by decide +kernel)]; kernel_rfl) | (rw [if_neg (by decide +kernel)]; exact ⟨rfl, rfl⟩))
    (fun os started H enc _ => lifted os started H enc)

theorem card : Rows.FnExactCheckCardSaid :=
  Claim7.holds_tied_plain_at .later [] [.handle, .sentinel, .sentinel, .sentinel, .sentinel, .sentinel, .sentinel, .sentinel, .sentinel, .sentinel, .sentinel, .data, .data, .data] true (true, "200c5d3d28316e84f5696789203ecd1083e94aac879b85af342d46f4637b0e04") true
    over (fun _ h => by cases h) (by kernel_rfl) (fun _ h => by cases h) fnExactCheck_row_tie rfl ⟨rfl, rfl⟩ (by kernel_rfl) rfl
    (fun f fn hf hfn => by
      obtain rfl : f = 3 := Option.some.inj ((show Tryz.prog.funcNamed "loop.example/s01308/laws.FnExactCheck" = some 3 by kernel_rfl).symm.trans hf) |>.symm
      obtain rfl : fn = Tryz.f3 := (Option.some.inj (Tryz.func3.symm.trans hfn)).symm
      exact ⟨by kernel_rfl, fun j t ht => by
        rw [Tryz.params3] at ht
        have hm : t ∈ [25] := by simpa using Array.mem_of_getElem? ht
        have hall : ([25].all fun u => !Tryz.prog.wantsStandIn u) = true := by kernel_rfl
        exact (show Tryz.prog.wantsStandIn t = false by simpa using List.all_eq_true.1 hall t hm)⟩)
    (by kernel_rfl)

end Go.Proofs.YtddpcehgopeklaaGreatDoor.fnExactCheckDone

namespace Go.Proofs.YtddpcehgopeklaaGreatDoor
theorem fnExactCheck_holds : Rows.FnExactCheckCardSaid := fnExactCheckDone.card
end Go.Proofs.YtddpcehgopeklaaGreatDoor

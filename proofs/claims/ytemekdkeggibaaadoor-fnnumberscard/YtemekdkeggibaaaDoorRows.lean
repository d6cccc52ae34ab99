/-
  NARROWER THAN 'FOR EVERY INPUT', by the rows' own cells (each row's printed sentence says how): FnExactCalc: ifaces, laid · FnNumbers: ifaces, laid.
  DERIVED. THE GIVEN ROWS OF THIS SEAT. 2 by the template 'for every input the law returns true; each argument reads behind the call as it read before'; 0 by the template 'total and deterministic' (their statements: YtemekdkeggibaaaDoorTotals.lean).
  GIVEN WITH THE SEED: the statements are not yours to turn. If you find one false, say at which input.
  Laid BY PROGRAM, IN A SANDBOX (cutbox-rows.mjs): the forced cells as the released guide's own fill.sh prints them over the translation 66e14c261918683d… (all of the seat's roots in one cut). By AI agents, Wed Nov 11 2026. No macro, syntax, notation, axiom, sorry.
-/
import Derived.Test.YtemekdkeggibaaaDoorChecked
import GoSem.Claim
import GoSem.ClaimJoined
import GoSem.ClaimMapViews
import Derived.JoinedTies
import Derived.KernelRfl
namespace Go.Proofs.YtemekdkeggibaaaDoor
/- THE CELL 'sum', in the pinned program and in every row, IS THE sha256 OF THE DUMP (.gsa) THAT YtemekdkeggibaaaDoorProg.lean LOADS. Nothing in Lean hashes anything: it is a label: what it is worth is what the hold of that sum in a sandbox is worth. -/
noncomputable def Tryd.pinned : Pinned := { name := "ytemekdkeggibaaadoor", sum := "66e14c261918683d858c97247d24896480313336d2c09a988732726da530a415", checked := Tryd.checked }
namespace Rows
def none {H : Type} : Left H := { results := [], args := [] }

/- WHAT THE LISTED PACKAGE-LEVEL VARIABLES READ AS WHEN THE CALL BEGINS. Each datum BY PROGRAM (the guide's laid-datum.mjs) off the statement by which the dump's own 'gosem.cut.vars' lays the variable. In a bare row this is a premise. The card (YtemekdkeggibaaaDoorCards.lean) ties it to the program's text. -/
def laid_loop_example_s01308_impl_errOverflow {H : Type} : DataW H := .iface "*errors.errorString" (.ptr (.agg [.lit (.string [116, 104, 101, 32, 110, 117, 109, 98, 101, 114, 32, 100, 111, 101, 115, 32, 110, 111, 116, 32, 102, 105, 116])]))
def laid_loop_example_s01308_impl_errZero {H : Type} : DataW H := .iface "*errors.errorString" (.ptr (.agg [.lit (.string [100, 105, 118, 105, 115, 105, 111, 110, 32, 98, 121, 32, 122, 101, 114, 111])]))
def laid_loop_example_s01308_impl_errWidth {H : Type} : DataW H := .iface "*errors.errorString" (.ptr (.agg [.lit (.string [116, 104, 101, 32, 115, 101, 116, 32, 104, 97, 115, 32, 116, 111, 111, 32, 109, 97, 110, 121, 32, 110, 97, 109, 101, 115])]))
def laid_loop_example_s01308_impl_errShape {H : Type} : DataW H := .iface "*errors.errorString" (.ptr (.agg [.lit (.string [105, 108, 108, 45, 102, 111, 114, 109, 101, 100, 32, 97, 114, 103, 117, 109, 101, 110, 116])]))

/-- 'laws.FnExactCalc': WHATEVER THE INPUT: true; the input reads as it did. -/
def fnExactCalcSpec : ChangeSpec := { name := "fnExactCalc", vars := ["loop.example/s01308/impl.errShape", "loop.example/s01308/impl.errOverflow", "loop.example/s01308/impl.errZero", "loop.example/s01308/impl.errWidth"], fn := fun _ => fun
  | [d1, d2, d3, g1, g2, g3, g4] => { results := [.lit (.bool true)], args := [d1, d2, d3], vars := [g1, g2, g3, g4] }
  | _ => none }
def fnExactCalcRow : OpenClaim := { program := "ytemekdkeggibaaadoor", sum := "66e14c261918683d858c97247d24896480313336d2c09a988732726da530a415", func := "loop.example/s01308/laws.FnExactCalc", spec := "fnExactCalc", inPlace := ["internal/reflectlite.TypeOf"], unfollowed := true, recurses := true, named := ["loop.example/s01308/impl.errShape", "loop.example/s01308/impl.errOverflow", "loop.example/s01308/impl.errZero", "loop.example/s01308/impl.errWidth"], ifaces := true, apart := false, laid := [("loop.example/s01308/impl.errOverflow", laid_loop_example_s01308_impl_errOverflow), ("loop.example/s01308/impl.errZero", laid_loop_example_s01308_impl_errZero), ("loop.example/s01308/impl.errWidth", laid_loop_example_s01308_impl_errWidth), ("loop.example/s01308/impl.errShape", laid_loop_example_s01308_impl_errShape)] }
def FnExactCalcSaid : Prop := fnExactCalcRow.holds Tryd.pinned (OpenSpec.ofChange fnExactCalcSpec)

/-- ITS FALSE NEIGHBOUR: 'it returns false'. Refute it at one input. -/
def fnExactCalcWrong : ChangeSpec := { name := "fnExactCalc", vars := ["loop.example/s01308/impl.errShape", "loop.example/s01308/impl.errOverflow", "loop.example/s01308/impl.errZero", "loop.example/s01308/impl.errWidth"], fn := fun _ => fun
  | [d1, d2, d3, g1, g2, g3, g4] => { results := [.lit (.bool false)], args := [d1, d2, d3], vars := [g1, g2, g3, g4] }
  | _ => none }
def FnExactCalcWrongFalsely : Prop := fnExactCalcRow.holds Tryd.pinned (OpenSpec.ofChange fnExactCalcWrong)

/-- 'laws.FnNumbers': WHATEVER THE INPUT: true; the input reads as it did. -/
def fnNumbersSpec : ChangeSpec := { name := "fnNumbers", vars := ["loop.example/s01308/impl.errShape", "loop.example/s01308/impl.errOverflow", "loop.example/s01308/impl.errZero", "loop.example/s01308/impl.errWidth"], fn := fun _ => fun
  | [d, g1, g2, g3, g4] => { results := [.lit (.bool true)], args := [d], vars := [g1, g2, g3, g4] }
  | _ => none }
def fnNumbersRow : OpenClaim := { program := "ytemekdkeggibaaadoor", sum := "66e14c261918683d858c97247d24896480313336d2c09a988732726da530a415", func := "loop.example/s01308/laws.FnNumbers", spec := "fnNumbers", inPlace := ["internal/reflectlite.TypeOf"], unfollowed := true, recurses := true, named := ["loop.example/s01308/impl.errShape", "loop.example/s01308/impl.errOverflow", "loop.example/s01308/impl.errZero", "loop.example/s01308/impl.errWidth"], ifaces := true, apart := false, laid := [("loop.example/s01308/impl.errOverflow", laid_loop_example_s01308_impl_errOverflow), ("loop.example/s01308/impl.errZero", laid_loop_example_s01308_impl_errZero), ("loop.example/s01308/impl.errWidth", laid_loop_example_s01308_impl_errWidth), ("loop.example/s01308/impl.errShape", laid_loop_example_s01308_impl_errShape)] }
def FnNumbersSaid : Prop := fnNumbersRow.holds Tryd.pinned (OpenSpec.ofChange fnNumbersSpec)

/-- ITS FALSE NEIGHBOUR: 'it returns false'. Refute it at one input. -/
def fnNumbersWrong : ChangeSpec := { name := "fnNumbers", vars := ["loop.example/s01308/impl.errShape", "loop.example/s01308/impl.errOverflow", "loop.example/s01308/impl.errZero", "loop.example/s01308/impl.errWidth"], fn := fun _ => fun
  | [d, g1, g2, g3, g4] => { results := [.lit (.bool false)], args := [d], vars := [g1, g2, g3, g4] }
  | _ => none }
def FnNumbersWrongFalsely : Prop := fnNumbersRow.holds Tryd.pinned (OpenSpec.ofChange fnNumbersWrong)

/- THE SECOND FORM. 'bulk': how many values and letters a reading holds, each counted each time it is reached (what is shared counts as often as it is met; a slice's spare places count too). A statement '..UptoSaid' is the law's where the arguments, and the package variables that the reading takes, are together of bulk at most 1048576: NARROWER than '..Said'. Prove '..Said' where nothing that the law and all that it calls make is longer than what came in: it says more and counts as full. Else prove '..UptoSaid'. A law counts once. -/
mutual
def uptoBulk {H : Type} : DataW H → Nat
  | .lit (.string bytes) => bytes.length + 1
  | .lit _ => 1
  | .nil => 1
  | .ptr d => uptoBulk d + 1
  | .slice elems spare => uptoBulkAll elems + uptoBulkAll spare + 1
  | .agg parts => uptoBulkAll parts + 1
  | .iface _ d => uptoBulk d + 1
  | .map entries => uptoBulkEntries entries + 1
  | .held _ => 1
def uptoBulkAll {H : Type} : List (DataW H) → Nat
  | [] => 0
  | d :: r => uptoBulk d + uptoBulkAll r
def uptoBulkEntries {H : Type} : List (Lit × DataW H) → Nat
  | [] => 0
  | x :: r => uptoBulkEntry x + uptoBulkEntries r
def uptoBulkEntry {H : Type} : Lit × DataW H → Nat
  | (.string bytes, d) => bytes.length + uptoBulk d + 1
  | (_, d) => uptoBulk d + 1
 end
def uptoSmall : (H : Type) → List (DataW H) → Bool := fun _ ds => decide (uptoBulkAll ds ≤ 1048576)
def OpenSpec.upto (s : _root_.Go.ChangeSpec) : _root_.Go.OpenSpec := { _root_.Go.OpenSpec.ofChange s with cond := some uptoSmall }

/-- 'laws.FnExactCalc', WHERE WHAT IT READS IS OF BULK AT MOST 1048576: true; the input reads as it did. -/
def fnExactCalcUptoRow : OpenClaim := { program := "ytemekdkeggibaaadoor", sum := "66e14c261918683d858c97247d24896480313336d2c09a988732726da530a415", func := "loop.example/s01308/laws.FnExactCalc", spec := "fnExactCalc", inPlace := ["internal/reflectlite.TypeOf"], unfollowed := true, recurses := true, named := ["loop.example/s01308/impl.errShape", "loop.example/s01308/impl.errOverflow", "loop.example/s01308/impl.errZero", "loop.example/s01308/impl.errWidth"], ifaces := true, apart := false, laid := [("loop.example/s01308/impl.errOverflow", laid_loop_example_s01308_impl_errOverflow), ("loop.example/s01308/impl.errZero", laid_loop_example_s01308_impl_errZero), ("loop.example/s01308/impl.errWidth", laid_loop_example_s01308_impl_errWidth), ("loop.example/s01308/impl.errShape", laid_loop_example_s01308_impl_errShape)], narrowed := true }
def FnExactCalcUptoSaid : Prop := fnExactCalcUptoRow.holds Tryd.pinned (OpenSpec.upto fnExactCalcSpec)

/-- 'laws.FnNumbers', WHERE WHAT IT READS IS OF BULK AT MOST 1048576: true; the input reads as it did. -/
def fnNumbersUptoRow : OpenClaim := { program := "ytemekdkeggibaaadoor", sum := "66e14c261918683d858c97247d24896480313336d2c09a988732726da530a415", func := "loop.example/s01308/laws.FnNumbers", spec := "fnNumbers", inPlace := ["internal/reflectlite.TypeOf"], unfollowed := true, recurses := true, named := ["loop.example/s01308/impl.errShape", "loop.example/s01308/impl.errOverflow", "loop.example/s01308/impl.errZero", "loop.example/s01308/impl.errWidth"], ifaces := true, apart := false, laid := [("loop.example/s01308/impl.errOverflow", laid_loop_example_s01308_impl_errOverflow), ("loop.example/s01308/impl.errZero", laid_loop_example_s01308_impl_errZero), ("loop.example/s01308/impl.errWidth", laid_loop_example_s01308_impl_errWidth), ("loop.example/s01308/impl.errShape", laid_loop_example_s01308_impl_errShape)], narrowed := true }
def FnNumbersUptoSaid : Prop := fnNumbersUptoRow.holds Tryd.pinned (OpenSpec.upto fnNumbersSpec)

end Rows
end Go.Proofs.YtemekdkeggibaaaDoor

/-
  NARROWER THAN 'FOR EVERY INPUT', by the rows' own cells (each row's printed sentence says how): FnOptimized: ifaces, laid.
  DERIVED. THE GIVEN ROWS OF THIS SEAT. 1 by the template 'for every input the law returns true; each argument reads behind the call as it read before'; 0 by the template 'total and deterministic' (their statements: YtlcfoihgfcmfeaaGreatDoorTotals.lean).
  GIVEN WITH THE SEED: the statements are not yours to turn. If you find one false, say at which input.
  Laid BY PROGRAM, IN A SANDBOX (cutbox-rows.mjs): the forced cells as the released guide's own fill.sh prints them over the translation 6cece0b4935e2308… (all of the seat's roots in one cut). By AI agents, Wed Nov 11 2026. No macro, syntax, notation, axiom, sorry.
-/
import Derived.Test.YtlcfoihgfcmfeaaGreatDoorChecked
import GoSem.Claim
import GoSem.ClaimJoined
import GoSem.ClaimMapViews
import Derived.JoinedTies
import Derived.KernelRfl
namespace Go.Proofs.YtlcfoihgfcmfeaaGreatDoor
/- THE CELL 'sum', in the pinned program and in every row, IS THE sha256 OF THE DUMP (.gsa) THAT YtlcfoihgfcmfeaaGreatDoorProg.lean LOADS. Nothing in Lean hashes anything: it is a label: what it is worth is what the hold of that sum in a sandbox is worth. -/
noncomputable def Tryz.pinned : Pinned := { name := "ytlcfoihgfcmfeaagreatdoor", sum := "6cece0b4935e2308fe097e23f1cbb58032b2735fd9e3c808f05b8c34ca4a43a4", checked := Tryz.checked }
namespace Rows
def none {H : Type} : Left H := { results := [], args := [] }

/- WHAT THE LISTED PACKAGE-LEVEL VARIABLES READ AS WHEN THE CALL BEGINS. Each datum BY PROGRAM (the guide's laid-datum.mjs) off the statement by which the dump's own 'gosem.cut.vars' lays the variable. In a bare row this is a premise. The card (YtlcfoihgfcmfeaaGreatDoorCards.lean) ties it to the program's text. -/
def laid_loop_example_s01308_impl_errOverflow {H : Type} : DataW H := .iface "*errors.errorString" (.ptr (.agg [.lit (.string [116, 104, 101, 32, 110, 117, 109, 98, 101, 114, 32, 100, 111, 101, 115, 32, 110, 111, 116, 32, 102, 105, 116])]))
def laid_loop_example_s01308_impl_errZero {H : Type} : DataW H := .iface "*errors.errorString" (.ptr (.agg [.lit (.string [100, 105, 118, 105, 115, 105, 111, 110, 32, 98, 121, 32, 122, 101, 114, 111])]))
def laid_loop_example_s01308_impl_errWidth {H : Type} : DataW H := .iface "*errors.errorString" (.ptr (.agg [.lit (.string [116, 104, 101, 32, 115, 101, 116, 32, 104, 97, 115, 32, 116, 111, 111, 32, 109, 97, 110, 121, 32, 110, 97, 109, 101, 115])]))
def laid_loop_example_s01308_impl_errShape {H : Type} : DataW H := .iface "*errors.errorString" (.ptr (.agg [.lit (.string [105, 108, 108, 45, 102, 111, 114, 109, 101, 100, 32, 97, 114, 103, 117, 109, 101, 110, 116])]))
def laid_loop_example_s01308_impl_errName {H : Type} : DataW H := .iface "*errors.errorString" (.ptr (.agg [.lit (.string [116, 104, 101, 32, 110, 97, 109, 101, 32, 105, 115, 32, 110, 111, 116, 32, 107, 110, 111, 119, 110, 32, 104, 101, 114, 101])]))
def laid_loop_example_s01308_impl_errAgain {H : Type} : DataW H := .iface "*errors.errorString" (.ptr (.agg [.lit (.string [116, 104, 101, 32, 110, 97, 109, 101, 32, 105, 115, 32, 107, 110, 111, 119, 110, 32, 97, 108, 114, 101, 97, 100, 121])]))
def laid_loop_example_s01308_impl_errType {H : Type} : DataW H := .iface "*errors.errorString" (.ptr (.agg [.lit (.string [116, 104, 101, 32, 116, 121, 112, 101, 32, 100, 111, 101, 115, 32, 110, 111, 116, 32, 102, 105, 116])]))
def laid_loop_example_s01308_impl_binaryOperators {H : Type} : DataW H := .agg [.agg [.lit (.int .i64 26), .lit (.int .i64 1), .lit (.string [111, 114])], .agg [.lit (.int .i64 25), .lit (.int .i64 2), .lit (.string [97, 110, 100])], .agg [.lit (.int .i64 19), .lit (.int .i64 4), .lit (.string [61, 61])], .agg [.lit (.int .i64 20), .lit (.int .i64 4), .lit (.string [33, 61])], .agg [.lit (.int .i64 21), .lit (.int .i64 4), .lit (.string [60])], .agg [.lit (.int .i64 22), .lit (.int .i64 4), .lit (.string [60, 61])], .agg [.lit (.int .i64 23), .lit (.int .i64 4), .lit (.string [105, 110])], .agg [.lit (.int .i64 24), .lit (.int .i64 4), .lit (.string [119, 105, 116, 104, 105, 110])], .agg [.lit (.int .i64 11), .lit (.int .i64 5), .lit (.string [43])], .agg [.lit (.int .i64 12), .lit (.int .i64 5), .lit (.string [45])], .agg [.lit (.int .i64 16), .lit (.int .i64 5), .lit (.string [124])], .agg [.lit (.int .i64 18), .lit (.int .i64 5), .lit (.string [92])], .agg [.lit (.int .i64 13), .lit (.int .i64 6), .lit (.string [42])], .agg [.lit (.int .i64 14), .lit (.int .i64 6), .lit (.string [47])], .agg [.lit (.int .i64 15), .lit (.int .i64 6), .lit (.string [37])], .agg [.lit (.int .i64 17), .lit (.int .i64 6), .lit (.string [38])]]
def laid_loop_example_s01308_impl_attributes {H : Type} : DataW H := .agg [.agg [.lit (.string [99, 108, 105, 101, 110, 116]), .lit (.int .i64 3)], .agg [.lit (.string [117, 115, 101, 114]), .lit (.int .i64 3)], .agg [.lit (.string [108, 101, 118, 101, 108]), .lit (.int .i64 2)], .agg [.lit (.string [110, 111, 119]), .lit (.int .i64 2)], .agg [.lit (.string [97, 115, 107, 101, 100]), .lit (.int .i64 4)], .agg [.lit (.string [97, 103, 114, 101, 101, 100]), .lit (.int .i64 4)]]
def laid_loop_example_s01308_impl_signatures {H : Type} : DataW H := .agg [.agg [.lit (.int .i64 8), .lit (.int .i64 2), .lit (.int .i64 0), .lit (.int .i64 2)], .agg [.lit (.int .i64 9), .lit (.int .i64 1), .lit (.int .i64 0), .lit (.int .i64 1)], .agg [.lit (.int .i64 10), .lit (.int .i64 4), .lit (.int .i64 0), .lit (.int .i64 2)], .agg [.lit (.int .i64 11), .lit (.int .i64 2), .lit (.int .i64 2), .lit (.int .i64 2)], .agg [.lit (.int .i64 12), .lit (.int .i64 2), .lit (.int .i64 2), .lit (.int .i64 2)], .agg [.lit (.int .i64 13), .lit (.int .i64 2), .lit (.int .i64 2), .lit (.int .i64 2)], .agg [.lit (.int .i64 14), .lit (.int .i64 2), .lit (.int .i64 2), .lit (.int .i64 2)], .agg [.lit (.int .i64 15), .lit (.int .i64 2), .lit (.int .i64 2), .lit (.int .i64 2)], .agg [.lit (.int .i64 16), .lit (.int .i64 4), .lit (.int .i64 4), .lit (.int .i64 4)], .agg [.lit (.int .i64 17), .lit (.int .i64 4), .lit (.int .i64 4), .lit (.int .i64 4)], .agg [.lit (.int .i64 18), .lit (.int .i64 4), .lit (.int .i64 4), .lit (.int .i64 4)], .agg [.lit (.int .i64 21), .lit (.int .i64 2), .lit (.int .i64 2), .lit (.int .i64 1)], .agg [.lit (.int .i64 22), .lit (.int .i64 2), .lit (.int .i64 2), .lit (.int .i64 1)], .agg [.lit (.int .i64 23), .lit (.int .i64 3), .lit (.int .i64 4), .lit (.int .i64 1)], .agg [.lit (.int .i64 24), .lit (.int .i64 4), .lit (.int .i64 4), .lit (.int .i64 1)], .agg [.lit (.int .i64 25), .lit (.int .i64 1), .lit (.int .i64 1), .lit (.int .i64 1)], .agg [.lit (.int .i64 26), .lit (.int .i64 1), .lit (.int .i64 1), .lit (.int .i64 1)]]

/-- 'laws.FnOptimized': WHATEVER THE INPUT: true; the input reads as it did. -/
def fnOptimizedSpec : ChangeSpec := { name := "fnOptimized", vars := ["loop.example/s01308/impl.binaryOperators", "loop.example/s01308/impl.attributes", "loop.example/s01308/impl.errType", "loop.example/s01308/impl.errName", "loop.example/s01308/impl.signatures", "loop.example/s01308/impl.errAgain", "loop.example/s01308/impl.errShape", "loop.example/s01308/impl.errOverflow", "loop.example/s01308/impl.errZero", "loop.example/s01308/impl.errWidth"], fn := fun _ => fun
  | [d1, d2, g1, g2, g3, g4, g5, g6, g7, g8, g9, g10] => { results := [.lit (.bool true)], args := [d1, d2], vars := [g1, g2, g3, g4, g5, g6, g7, g8, g9, g10] }
  | _ => none }
def fnOptimizedRow : OpenClaim := { program := "ytlcfoihgfcmfeaagreatdoor", sum := "6cece0b4935e2308fe097e23f1cbb58032b2735fd9e3c808f05b8c34ca4a43a4", func := "loop.example/s01308/laws.FnOptimized", spec := "fnOptimized", inPlace := ["internal/reflectlite.TypeOf"], unfollowed := true, recurses := true, named := ["loop.example/s01308/impl.binaryOperators", "loop.example/s01308/impl.attributes", "loop.example/s01308/impl.errType", "loop.example/s01308/impl.errName", "loop.example/s01308/impl.signatures", "loop.example/s01308/impl.errAgain", "loop.example/s01308/impl.errShape", "loop.example/s01308/impl.errOverflow", "loop.example/s01308/impl.errZero", "loop.example/s01308/impl.errWidth"], ifaces := true, apart := false, laid := [("loop.example/s01308/impl.errOverflow", laid_loop_example_s01308_impl_errOverflow), ("loop.example/s01308/impl.errZero", laid_loop_example_s01308_impl_errZero), ("loop.example/s01308/impl.errWidth", laid_loop_example_s01308_impl_errWidth), ("loop.example/s01308/impl.errShape", laid_loop_example_s01308_impl_errShape), ("loop.example/s01308/impl.errName", laid_loop_example_s01308_impl_errName), ("loop.example/s01308/impl.errAgain", laid_loop_example_s01308_impl_errAgain), ("loop.example/s01308/impl.errType", laid_loop_example_s01308_impl_errType), ("loop.example/s01308/impl.binaryOperators", laid_loop_example_s01308_impl_binaryOperators), ("loop.example/s01308/impl.attributes", laid_loop_example_s01308_impl_attributes), ("loop.example/s01308/impl.signatures", laid_loop_example_s01308_impl_signatures)] }
def FnOptimizedSaid : Prop := fnOptimizedRow.holds Tryz.pinned (OpenSpec.ofChange fnOptimizedSpec)

/-- ITS FALSE NEIGHBOUR: 'it returns false'. Refute it at one input. -/
def fnOptimizedWrong : ChangeSpec := { name := "fnOptimized", vars := ["loop.example/s01308/impl.binaryOperators", "loop.example/s01308/impl.attributes", "loop.example/s01308/impl.errType", "loop.example/s01308/impl.errName", "loop.example/s01308/impl.signatures", "loop.example/s01308/impl.errAgain", "loop.example/s01308/impl.errShape", "loop.example/s01308/impl.errOverflow", "loop.example/s01308/impl.errZero", "loop.example/s01308/impl.errWidth"], fn := fun _ => fun
  | [d1, d2, g1, g2, g3, g4, g5, g6, g7, g8, g9, g10] => { results := [.lit (.bool false)], args := [d1, d2], vars := [g1, g2, g3, g4, g5, g6, g7, g8, g9, g10] }
  | _ => none }
def FnOptimizedWrongFalsely : Prop := fnOptimizedRow.holds Tryz.pinned (OpenSpec.ofChange fnOptimizedWrong)

/- THE SECOND FORM. 'bulk': how many values and letters a reading holds, each counted each time it is reached (what is shared counts as often as it is met; a slice's spare places count too). A statement '..UptoSaid' is the law's where the arguments, and the package variables that the reading takes, are together of bulk at most 1048576: NARROWER than '..Said'. Prove '..Said' where nothing that the law and all that it calls make is longer than what came in: it says more and counts as full. Else prove '..UptoSaid'. A law counts once. -/
mutual
def uptoBulk {H : Type} : DataW H → Nat
  | .lit (.string bytes) => bytes.length + 1
  | .lit _ => 1
  | .nil => 1
  | .ptr d => uptoBulk d + 1
  | .slice elems spare => uptoBulkAll elems + uptoBulkAll spare + 1
  | .agg parts => uptoBulkAll parts + 1
  | .iface _ d => uptoBulk d + 1
  | .map entries => uptoBulkEntries entries + 1
  | .held _ => 1
def uptoBulkAll {H : Type} : List (DataW H) → Nat
  | [] => 0
  | d :: r => uptoBulk d + uptoBulkAll r
def uptoBulkEntries {H : Type} : List (Lit × DataW H) → Nat
  | [] => 0
  | x :: r => uptoBulkEntry x + uptoBulkEntries r
def uptoBulkEntry {H : Type} : Lit × DataW H → Nat
  | (.string bytes, d) => bytes.length + uptoBulk d + 1
  | (_, d) => uptoBulk d + 1
 end
def uptoSmall : (H : Type) → List (DataW H) → Bool := fun _ ds => decide (uptoBulkAll ds ≤ 1048576)
def OpenSpec.upto (s : _root_.Go.ChangeSpec) : _root_.Go.OpenSpec := { _root_.Go.OpenSpec.ofChange s with cond := some uptoSmall }

/-- 'laws.FnOptimized', WHERE WHAT IT READS IS OF BULK AT MOST 1048576: true; the input reads as it did. -/
def fnOptimizedUptoRow : OpenClaim := { program := "ytlcfoihgfcmfeaagreatdoor", sum := "6cece0b4935e2308fe097e23f1cbb58032b2735fd9e3c808f05b8c34ca4a43a4", func := "loop.example/s01308/laws.FnOptimized", spec := "fnOptimized", inPlace := ["internal/reflectlite.TypeOf"], unfollowed := true, recurses := true, named := ["loop.example/s01308/impl.binaryOperators", "loop.example/s01308/impl.attributes", "loop.example/s01308/impl.errType", "loop.example/s01308/impl.errName", "loop.example/s01308/impl.signatures", "loop.example/s01308/impl.errAgain", "loop.example/s01308/impl.errShape", "loop.example/s01308/impl.errOverflow", "loop.example/s01308/impl.errZero", "loop.example/s01308/impl.errWidth"], ifaces := true, apart := false, laid := [("loop.example/s01308/impl.errOverflow", laid_loop_example_s01308_impl_errOverflow), ("loop.example/s01308/impl.errZero", laid_loop_example_s01308_impl_errZero), ("loop.example/s01308/impl.errWidth", laid_loop_example_s01308_impl_errWidth), ("loop.example/s01308/impl.errShape", laid_loop_example_s01308_impl_errShape), ("loop.example/s01308/impl.errName", laid_loop_example_s01308_impl_errName), ("loop.example/s01308/impl.errAgain", laid_loop_example_s01308_impl_errAgain), ("loop.example/s01308/impl.errType", laid_loop_example_s01308_impl_errType), ("loop.example/s01308/impl.binaryOperators", laid_loop_example_s01308_impl_binaryOperators), ("loop.example/s01308/impl.attributes", laid_loop_example_s01308_impl_attributes), ("loop.example/s01308/impl.signatures", laid_loop_example_s01308_impl_signatures)], narrowed := true }
def FnOptimizedUptoSaid : Prop := fnOptimizedUptoRow.holds Tryz.pinned (OpenSpec.upto fnOptimizedSpec)

end Rows
end Go.Proofs.YtlcfoihgfcmfeaaGreatDoor

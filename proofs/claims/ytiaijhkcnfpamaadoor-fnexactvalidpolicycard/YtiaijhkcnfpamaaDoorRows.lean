/-
  NARROWER THAN 'FOR EVERY INPUT', by the rows' own cells (each row's printed sentence says how): FnExactValidPolicy: laid.
  DERIVED. THE GIVEN ROWS OF THIS SEAT. 1 by the template 'for every input the law returns true; each argument reads behind the call as it read before'; 0 by the template 'total and deterministic' (their statements: YtiaijhkcnfpamaaDoorTotals.lean).
  GIVEN WITH THE SEED: the statements are not yours to turn. If you find one false, say at which input.
  Laid BY PROGRAM, IN A SANDBOX (cutbox-rows.mjs): the forced cells as the released guide's own fill.sh prints them over the translation 486f48046c23a081… (all of the seat's roots in one cut). By AI agents, Wed Nov 11 2026. No macro, syntax, notation, axiom, sorry.
-/
import Derived.Test.YtiaijhkcnfpamaaDoorChecked
import GoSem.Claim
import GoSem.ClaimJoined
import GoSem.ClaimMapViews
import Derived.JoinedTies
import Derived.KernelRfl
namespace Go.Proofs.YtiaijhkcnfpamaaDoor
/- THE CELL 'sum', in the pinned program and in every row, IS THE sha256 OF THE DUMP (.gsa) THAT YtiaijhkcnfpamaaDoorProg.lean LOADS. Nothing in Lean hashes anything: it is a label: what it is worth is what the hold of that sum in a sandbox is worth. -/
noncomputable def Tryd.pinned : Pinned := { name := "ytiaijhkcnfpamaadoor", sum := "486f48046c23a0815726e3ee067d22a2781944e25cb99409cfe8cf82959867da", checked := Tryd.checked }
namespace Rows
def none {H : Type} : Left H := { results := [], args := [] }

/- WHAT THE LISTED PACKAGE-LEVEL VARIABLES READ AS WHEN THE CALL BEGINS. Each datum BY PROGRAM (the guide's laid-datum.mjs) off the statement by which the dump's own 'gosem.cut.vars' lays the variable. In a bare row this is a premise. The card (YtiaijhkcnfpamaaDoorCards.lean) ties it to the program's text. -/
def laid_loop_example_s01308_impl_binaryOperators {H : Type} : DataW H := .agg [.agg [.lit (.int .i64 26), .lit (.int .i64 1), .lit (.string [111, 114])], .agg [.lit (.int .i64 25), .lit (.int .i64 2), .lit (.string [97, 110, 100])], .agg [.lit (.int .i64 19), .lit (.int .i64 4), .lit (.string [61, 61])], .agg [.lit (.int .i64 20), .lit (.int .i64 4), .lit (.string [33, 61])], .agg [.lit (.int .i64 21), .lit (.int .i64 4), .lit (.string [60])], .agg [.lit (.int .i64 22), .lit (.int .i64 4), .lit (.string [60, 61])], .agg [.lit (.int .i64 23), .lit (.int .i64 4), .lit (.string [105, 110])], .agg [.lit (.int .i64 24), .lit (.int .i64 4), .lit (.string [119, 105, 116, 104, 105, 110])], .agg [.lit (.int .i64 11), .lit (.int .i64 5), .lit (.string [43])], .agg [.lit (.int .i64 12), .lit (.int .i64 5), .lit (.string [45])], .agg [.lit (.int .i64 16), .lit (.int .i64 5), .lit (.string [124])], .agg [.lit (.int .i64 18), .lit (.int .i64 5), .lit (.string [92])], .agg [.lit (.int .i64 13), .lit (.int .i64 6), .lit (.string [42])], .agg [.lit (.int .i64 14), .lit (.int .i64 6), .lit (.string [47])], .agg [.lit (.int .i64 15), .lit (.int .i64 6), .lit (.string [37])], .agg [.lit (.int .i64 17), .lit (.int .i64 6), .lit (.string [38])]]

/-- 'laws.FnExactValidPolicy': WHATEVER THE INPUT: true; the input reads as it did. -/
def fnExactValidPolicySpec : ChangeSpec := { name := "fnExactValidPolicy", vars := ["loop.example/s01308/impl.binaryOperators"], fn := fun _ => fun
  | [d, g1] => { results := [.lit (.bool true)], args := [d], vars := [g1] }
  | _ => none }
def fnExactValidPolicyRow : OpenClaim := { program := "ytiaijhkcnfpamaadoor", sum := "486f48046c23a0815726e3ee067d22a2781944e25cb99409cfe8cf82959867da", func := "loop.example/s01308/laws.FnExactValidPolicy", spec := "fnExactValidPolicy", unfollowed := true, recurses := true, named := ["loop.example/s01308/impl.binaryOperators"], apart := false, laid := [("loop.example/s01308/impl.binaryOperators", laid_loop_example_s01308_impl_binaryOperators)] }
def FnExactValidPolicySaid : Prop := fnExactValidPolicyRow.holds Tryd.pinned (OpenSpec.ofChange fnExactValidPolicySpec)

/-- ITS FALSE NEIGHBOUR: 'it returns false'. Refute it at one input. -/
def fnExactValidPolicyWrong : ChangeSpec := { name := "fnExactValidPolicy", vars := ["loop.example/s01308/impl.binaryOperators"], fn := fun _ => fun
  | [d, g1] => { results := [.lit (.bool false)], args := [d], vars := [g1] }
  | _ => none }
def FnExactValidPolicyWrongFalsely : Prop := fnExactValidPolicyRow.holds Tryd.pinned (OpenSpec.ofChange fnExactValidPolicyWrong)

/- THE SECOND FORM. 'bulk': how many values and letters a reading holds, each counted each time it is reached (what is shared counts as often as it is met; a slice's spare places count too). A statement '..UptoSaid' is the law's where the arguments, and the package variables that the reading takes, are together of bulk at most 1048576: NARROWER than '..Said'. Prove '..Said' where nothing that the law and all that it calls make is longer than what came in: it says more and counts as full. Else prove '..UptoSaid'. A law counts once. -/
mutual
def uptoBulk {H : Type} : DataW H → Nat
  | .lit (.string bytes) => bytes.length + 1
  | .lit _ => 1
  | .nil => 1
  | .ptr d => uptoBulk d + 1
  | .slice elems spare => uptoBulkAll elems + uptoBulkAll spare + 1
  | .agg parts => uptoBulkAll parts + 1
  | .iface _ d => uptoBulk d + 1
  | .map entries => uptoBulkEntries entries + 1
  | .held _ => 1
def uptoBulkAll {H : Type} : List (DataW H) → Nat
  | [] => 0
  | d :: r => uptoBulk d + uptoBulkAll r
def uptoBulkEntries {H : Type} : List (Lit × DataW H) → Nat
  | [] => 0
  | x :: r => uptoBulkEntry x + uptoBulkEntries r
def uptoBulkEntry {H : Type} : Lit × DataW H → Nat
  | (.string bytes, d) => bytes.length + uptoBulk d + 1
  | (_, d) => uptoBulk d + 1
 end
def uptoSmall : (H : Type) → List (DataW H) → Bool := fun _ ds => decide (uptoBulkAll ds ≤ 1048576)
def OpenSpec.upto (s : _root_.Go.ChangeSpec) : _root_.Go.OpenSpec := { _root_.Go.OpenSpec.ofChange s with cond := some uptoSmall }

/-- 'laws.FnExactValidPolicy', WHERE WHAT IT READS IS OF BULK AT MOST 1048576: true; the input reads as it did. -/
def fnExactValidPolicyUptoRow : OpenClaim := { program := "ytiaijhkcnfpamaadoor", sum := "486f48046c23a0815726e3ee067d22a2781944e25cb99409cfe8cf82959867da", func := "loop.example/s01308/laws.FnExactValidPolicy", spec := "fnExactValidPolicy", unfollowed := true, recurses := true, named := ["loop.example/s01308/impl.binaryOperators"], apart := false, laid := [("loop.example/s01308/impl.binaryOperators", laid_loop_example_s01308_impl_binaryOperators)], narrowed := true }
def FnExactValidPolicyUptoSaid : Prop := fnExactValidPolicyUptoRow.holds Tryd.pinned (OpenSpec.upto fnExactValidPolicySpec)

end Rows
end Go.Proofs.YtiaijhkcnfpamaaDoor

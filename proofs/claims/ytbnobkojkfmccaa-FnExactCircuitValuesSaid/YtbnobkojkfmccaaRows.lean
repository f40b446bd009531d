/-
  No cell of these rows narrows 'for every input' (looked for: loops, veiled, ifaces, maps, wideKeys, modest, calm, conditions, laid).
  DERIVED. THE GIVEN ROWS OF THIS SEAT. 9 by the template 'for every input the law returns true; each argument reads behind the call as it read before'; 0 by the template 'total and deterministic' (their statements: YtbnobkojkfmccaaTotals.lean).
  GIVEN WITH THE SEED: the statements are not yours to turn. If you find one false, say at which input.
  Laid BY PROGRAM, IN A SANDBOX (cutbox-rows.mjs): the forced cells as the released guide's own fill.sh prints them over the translation d8f984164d20d6c7… (all of the seat's roots in one cut). By AI agents, Wed Nov 11 2026. No macro, syntax, notation, axiom, sorry.
-/
import Derived.Test.YtbnobkojkfmccaaChecked
import GoSem.Claim
import GoSem.ClaimJoined
import GoSem.ClaimMapViews
import Derived.JoinedTies
import Derived.KernelRfl
namespace Go.Proofs.Ytbnobkojkfmccaa
/- THE CELL 'sum', in the pinned program and in every row, IS THE sha256 OF THE DUMP (.gsa) THAT YtbnobkojkfmccaaProg.lean LOADS. Nothing in Lean hashes anything: it is a label: what it is worth is what the hold of that sum in a sandbox is worth. -/
noncomputable def Try.pinned : Pinned := { name := "ytbnobkojkfmccaa", sum := "d8f984164d20d6c7edf5d184283f7b7b4e98063dbe3f48453feecb905b397902", checked := Try.checked }
namespace Rows
def none {H : Type} : Left H := { results := [], args := [] }

/-- 'laws.FnExactMatrixOk': WHATEVER THE INPUT: true; the input reads as it did. -/
def fnExactMatrixOkSpec : ChangeSpec := { name := "fnExactMatrixOk", fn := fun _ => fun
  | [d] => { results := [.lit (.bool true)], args := [d] }
  | _ => none }
def fnExactMatrixOkRow : OpenClaim := { program := "ytbnobkojkfmccaa", sum := "d8f984164d20d6c7edf5d184283f7b7b4e98063dbe3f48453feecb905b397902", func := "loop.example/underveil/laws.FnExactMatrixOk", spec := "fnExactMatrixOk", apart := false }
def FnExactMatrixOkSaid : Prop := fnExactMatrixOkRow.holds Try.pinned (OpenSpec.ofChange fnExactMatrixOkSpec)

/-- ITS FALSE NEIGHBOUR: 'it returns false'. Refute it at one input. -/
def fnExactMatrixOkWrong : ChangeSpec := { name := "fnExactMatrixOk", fn := fun _ => fun
  | [d] => { results := [.lit (.bool false)], args := [d] }
  | _ => none }
def FnExactMatrixOkWrongFalsely : Prop := fnExactMatrixOkRow.holds Try.pinned (OpenSpec.ofChange fnExactMatrixOkWrong)

/-- 'laws.FnExactMatrixTimes': WHATEVER THE INPUT: true; the input reads as it did. -/
def fnExactMatrixTimesSpec : ChangeSpec := { name := "fnExactMatrixTimes", fn := fun _ => fun
  | [d1, d2] => { results := [.lit (.bool true)], args := [d1, d2] }
  | _ => none }
def fnExactMatrixTimesRow : OpenClaim := { program := "ytbnobkojkfmccaa", sum := "d8f984164d20d6c7edf5d184283f7b7b4e98063dbe3f48453feecb905b397902", func := "loop.example/underveil/laws.FnExactMatrixTimes", spec := "fnExactMatrixTimes", apart := false }
def FnExactMatrixTimesSaid : Prop := fnExactMatrixTimesRow.holds Try.pinned (OpenSpec.ofChange fnExactMatrixTimesSpec)

/-- ITS FALSE NEIGHBOUR: 'it returns false'. Refute it at one input. -/
def fnExactMatrixTimesWrong : ChangeSpec := { name := "fnExactMatrixTimes", fn := fun _ => fun
  | [d1, d2] => { results := [.lit (.bool false)], args := [d1, d2] }
  | _ => none }
def FnExactMatrixTimesWrongFalsely : Prop := fnExactMatrixTimesRow.holds Try.pinned (OpenSpec.ofChange fnExactMatrixTimesWrong)

/-- 'laws.FnExactMatrixSolve': WHATEVER THE INPUT: true; the input reads as it did. -/
def fnExactMatrixSolveSpec : ChangeSpec := { name := "fnExactMatrixSolve", fn := fun _ => fun
  | [d1, d2] => { results := [.lit (.bool true)], args := [d1, d2] }
  | _ => none }
def fnExactMatrixSolveRow : OpenClaim := { program := "ytbnobkojkfmccaa", sum := "d8f984164d20d6c7edf5d184283f7b7b4e98063dbe3f48453feecb905b397902", func := "loop.example/underveil/laws.FnExactMatrixSolve", spec := "fnExactMatrixSolve", apart := false }
def FnExactMatrixSolveSaid : Prop := fnExactMatrixSolveRow.holds Try.pinned (OpenSpec.ofChange fnExactMatrixSolveSpec)

/-- ITS FALSE NEIGHBOUR: 'it returns false'. Refute it at one input. -/
def fnExactMatrixSolveWrong : ChangeSpec := { name := "fnExactMatrixSolve", fn := fun _ => fun
  | [d1, d2] => { results := [.lit (.bool false)], args := [d1, d2] }
  | _ => none }
def FnExactMatrixSolveWrongFalsely : Prop := fnExactMatrixSolveRow.holds Try.pinned (OpenSpec.ofChange fnExactMatrixSolveWrong)

/-- 'laws.FnExactMatrixRank': WHATEVER THE INPUT: true; the input reads as it did. -/
def fnExactMatrixRankSpec : ChangeSpec := { name := "fnExactMatrixRank", fn := fun _ => fun
  | [d] => { results := [.lit (.bool true)], args := [d] }
  | _ => none }
def fnExactMatrixRankRow : OpenClaim := { program := "ytbnobkojkfmccaa", sum := "d8f984164d20d6c7edf5d184283f7b7b4e98063dbe3f48453feecb905b397902", func := "loop.example/underveil/laws.FnExactMatrixRank", spec := "fnExactMatrixRank", apart := false }
def FnExactMatrixRankSaid : Prop := fnExactMatrixRankRow.holds Try.pinned (OpenSpec.ofChange fnExactMatrixRankSpec)

/-- ITS FALSE NEIGHBOUR: 'it returns false'. Refute it at one input. -/
def fnExactMatrixRankWrong : ChangeSpec := { name := "fnExactMatrixRank", fn := fun _ => fun
  | [d] => { results := [.lit (.bool false)], args := [d] }
  | _ => none }
def FnExactMatrixRankWrongFalsely : Prop := fnExactMatrixRankRow.holds Try.pinned (OpenSpec.ofChange fnExactMatrixRankWrong)

/-- 'laws.FnExactMatrixKernel': WHATEVER THE INPUT: true; the input reads as it did. -/
def fnExactMatrixKernelSpec : ChangeSpec := { name := "fnExactMatrixKernel", fn := fun _ => fun
  | [d] => { results := [.lit (.bool true)], args := [d] }
  | _ => none }
def fnExactMatrixKernelRow : OpenClaim := { program := "ytbnobkojkfmccaa", sum := "d8f984164d20d6c7edf5d184283f7b7b4e98063dbe3f48453feecb905b397902", func := "loop.example/underveil/laws.FnExactMatrixKernel", spec := "fnExactMatrixKernel", apart := false }
def FnExactMatrixKernelSaid : Prop := fnExactMatrixKernelRow.holds Try.pinned (OpenSpec.ofChange fnExactMatrixKernelSpec)

/-- ITS FALSE NEIGHBOUR: 'it returns false'. Refute it at one input. -/
def fnExactMatrixKernelWrong : ChangeSpec := { name := "fnExactMatrixKernel", fn := fun _ => fun
  | [d] => { results := [.lit (.bool false)], args := [d] }
  | _ => none }
def FnExactMatrixKernelWrongFalsely : Prop := fnExactMatrixKernelRow.holds Try.pinned (OpenSpec.ofChange fnExactMatrixKernelWrong)

/-- 'laws.FnExactCircuitValues': WHATEVER THE INPUT: true; the input reads as it did. -/
def fnExactCircuitValuesSpec : ChangeSpec := { name := "fnExactCircuitValues", fn := fun _ => fun
  | [d1, d2] => { results := [.lit (.bool true)], args := [d1, d2] }
  | _ => none }
def fnExactCircuitValuesRow : OpenClaim := { program := "ytbnobkojkfmccaa", sum := "d8f984164d20d6c7edf5d184283f7b7b4e98063dbe3f48453feecb905b397902", func := "loop.example/underveil/laws.FnExactCircuitValues", spec := "fnExactCircuitValues", unfollowed := true, recurses := true, apart := false }
def FnExactCircuitValuesSaid : Prop := fnExactCircuitValuesRow.holds Try.pinned (OpenSpec.ofChange fnExactCircuitValuesSpec)

/-- ITS FALSE NEIGHBOUR: 'it returns false'. Refute it at one input. -/
def fnExactCircuitValuesWrong : ChangeSpec := { name := "fnExactCircuitValues", fn := fun _ => fun
  | [d1, d2] => { results := [.lit (.bool false)], args := [d1, d2] }
  | _ => none }
def FnExactCircuitValuesWrongFalsely : Prop := fnExactCircuitValuesRow.holds Try.pinned (OpenSpec.ofChange fnExactCircuitValuesWrong)

/-- 'laws.FnExactCircuitRun': WHATEVER THE INPUT: true; the input reads as it did. -/
def fnExactCircuitRunSpec : ChangeSpec := { name := "fnExactCircuitRun", fn := fun _ => fun
  | [d1, d2] => { results := [.lit (.bool true)], args := [d1, d2] }
  | _ => none }
def fnExactCircuitRunRow : OpenClaim := { program := "ytbnobkojkfmccaa", sum := "d8f984164d20d6c7edf5d184283f7b7b4e98063dbe3f48453feecb905b397902", func := "loop.example/underveil/laws.FnExactCircuitRun", spec := "fnExactCircuitRun", unfollowed := true, recurses := true, apart := false }
def FnExactCircuitRunSaid : Prop := fnExactCircuitRunRow.holds Try.pinned (OpenSpec.ofChange fnExactCircuitRunSpec)

/-- ITS FALSE NEIGHBOUR: 'it returns false'. Refute it at one input. -/
def fnExactCircuitRunWrong : ChangeSpec := { name := "fnExactCircuitRun", fn := fun _ => fun
  | [d1, d2] => { results := [.lit (.bool false)], args := [d1, d2] }
  | _ => none }
def FnExactCircuitRunWrongFalsely : Prop := fnExactCircuitRunRow.holds Try.pinned (OpenSpec.ofChange fnExactCircuitRunWrong)

/-- 'laws.FnExactSharesExplain': WHATEVER THE INPUT: true; the input reads as it did. -/
def fnExactSharesExplainSpec : ChangeSpec := { name := "fnExactSharesExplain", fn := fun _ => fun
  | [d1, d2] => { results := [.lit (.bool true)], args := [d1, d2] }
  | _ => none }
def fnExactSharesExplainRow : OpenClaim := { program := "ytbnobkojkfmccaa", sum := "d8f984164d20d6c7edf5d184283f7b7b4e98063dbe3f48453feecb905b397902", func := "loop.example/underveil/laws.FnExactSharesExplain", spec := "fnExactSharesExplain", apart := false }
def FnExactSharesExplainSaid : Prop := fnExactSharesExplainRow.holds Try.pinned (OpenSpec.ofChange fnExactSharesExplainSpec)

/-- ITS FALSE NEIGHBOUR: 'it returns false'. Refute it at one input. -/
def fnExactSharesExplainWrong : ChangeSpec := { name := "fnExactSharesExplain", fn := fun _ => fun
  | [d1, d2] => { results := [.lit (.bool false)], args := [d1, d2] }
  | _ => none }
def FnExactSharesExplainWrongFalsely : Prop := fnExactSharesExplainRow.holds Try.pinned (OpenSpec.ofChange fnExactSharesExplainWrong)

/-- 'laws.FnSharesExplain': WHATEVER THE INPUT: true; the input reads as it did. -/
def fnSharesExplainSpec : ChangeSpec := { name := "fnSharesExplain", fn := fun _ => fun
  | [d] => { results := [.lit (.bool true)], args := [d] }
  | _ => none }
def fnSharesExplainRow : OpenClaim := { program := "ytbnobkojkfmccaa", sum := "d8f984164d20d6c7edf5d184283f7b7b4e98063dbe3f48453feecb905b397902", func := "loop.example/underveil/laws.FnSharesExplain", spec := "fnSharesExplain", unfollowed := true, recurses := true, apart := false }
def FnSharesExplainSaid : Prop := fnSharesExplainRow.holds Try.pinned (OpenSpec.ofChange fnSharesExplainSpec)

/-- ITS FALSE NEIGHBOUR: 'it returns false'. Refute it at one input. -/
def fnSharesExplainWrong : ChangeSpec := { name := "fnSharesExplain", fn := fun _ => fun
  | [d] => { results := [.lit (.bool false)], args := [d] }
  | _ => none }
def FnSharesExplainWrongFalsely : Prop := fnSharesExplainRow.holds Try.pinned (OpenSpec.ofChange fnSharesExplainWrong)

/- THE SECOND FORM. 'bulk': how many values and letters a reading holds, each counted each time it is reached (what is shared counts as often as it is met; a slice's spare places count too). A statement '..UptoSaid' is the law's where the arguments, and the package variables that the reading takes, are together of bulk at most 1048576: NARROWER than '..Said'. Prove '..Said' where nothing that the law and all that it calls make is longer than what came in: it says more and counts as full. Else prove '..UptoSaid'. A law counts once. -/
mutual
def uptoBulk {H : Type} : DataW H → Nat
  | .lit (.string bytes) => bytes.length + 1
  | .lit _ => 1
  | .nil => 1
  | .ptr d => uptoBulk d + 1
  | .slice elems spare => uptoBulkAll elems + uptoBulkAll spare + 1
  | .agg parts => uptoBulkAll parts + 1
  | .iface _ d => uptoBulk d + 1
  | .map entries => uptoBulkEntries entries + 1
  | .held _ => 1
def uptoBulkAll {H : Type} : List (DataW H) → Nat
  | [] => 0
  | d :: r => uptoBulk d + uptoBulkAll r
def uptoBulkEntries {H : Type} : List (Lit × DataW H) → Nat
  | [] => 0
  | x :: r => uptoBulkEntry x + uptoBulkEntries r
def uptoBulkEntry {H : Type} : Lit × DataW H → Nat
  | (.string bytes, d) => bytes.length + uptoBulk d + 1
  | (_, d) => uptoBulk d + 1
 end
def uptoSmall : (H : Type) → List (DataW H) → Bool := fun _ ds => decide (uptoBulkAll ds ≤ 1048576)
def OpenSpec.upto (s : _root_.Go.ChangeSpec) : _root_.Go.OpenSpec := { _root_.Go.OpenSpec.ofChange s with cond := some uptoSmall }

/-- 'laws.FnExactMatrixOk', WHERE WHAT IT READS IS OF BULK AT MOST 1048576: true; the input reads as it did. -/
def fnExactMatrixOkUptoRow : OpenClaim := { program := "ytbnobkojkfmccaa", sum := "d8f984164d20d6c7edf5d184283f7b7b4e98063dbe3f48453feecb905b397902", func := "loop.example/underveil/laws.FnExactMatrixOk", spec := "fnExactMatrixOk", apart := false, narrowed := true }
def FnExactMatrixOkUptoSaid : Prop := fnExactMatrixOkUptoRow.holds Try.pinned (OpenSpec.upto fnExactMatrixOkSpec)

/-- 'laws.FnExactMatrixTimes', WHERE WHAT IT READS IS OF BULK AT MOST 1048576: true; the input reads as it did. -/
def fnExactMatrixTimesUptoRow : OpenClaim := { program := "ytbnobkojkfmccaa", sum := "d8f984164d20d6c7edf5d184283f7b7b4e98063dbe3f48453feecb905b397902", func := "loop.example/underveil/laws.FnExactMatrixTimes", spec := "fnExactMatrixTimes", apart := false, narrowed := true }
def FnExactMatrixTimesUptoSaid : Prop := fnExactMatrixTimesUptoRow.holds Try.pinned (OpenSpec.upto fnExactMatrixTimesSpec)

/-- 'laws.FnExactMatrixSolve', WHERE WHAT IT READS IS OF BULK AT MOST 1048576: true; the input reads as it did. -/
def fnExactMatrixSolveUptoRow : OpenClaim := { program := "ytbnobkojkfmccaa", sum := "d8f984164d20d6c7edf5d184283f7b7b4e98063dbe3f48453feecb905b397902", func := "loop.example/underveil/laws.FnExactMatrixSolve", spec := "fnExactMatrixSolve", apart := false, narrowed := true }
def FnExactMatrixSolveUptoSaid : Prop := fnExactMatrixSolveUptoRow.holds Try.pinned (OpenSpec.upto fnExactMatrixSolveSpec)

/-- 'laws.FnExactMatrixRank', WHERE WHAT IT READS IS OF BULK AT MOST 1048576: true; the input reads as it did. -/
def fnExactMatrixRankUptoRow : OpenClaim := { program := "ytbnobkojkfmccaa", sum := "d8f984164d20d6c7edf5d184283f7b7b4e98063dbe3f48453feecb905b397902", func := "loop.example/underveil/laws.FnExactMatrixRank", spec := "fnExactMatrixRank", apart := false, narrowed := true }
def FnExactMatrixRankUptoSaid : Prop := fnExactMatrixRankUptoRow.holds Try.pinned (OpenSpec.upto fnExactMatrixRankSpec)

/-- 'laws.FnExactMatrixKernel', WHERE WHAT IT READS IS OF BULK AT MOST 1048576: true; the input reads as it did. -/
def fnExactMatrixKernelUptoRow : OpenClaim := { program := "ytbnobkojkfmccaa", sum := "d8f984164d20d6c7edf5d184283f7b7b4e98063dbe3f48453feecb905b397902", func := "loop.example/underveil/laws.FnExactMatrixKernel", spec := "fnExactMatrixKernel", apart := false, narrowed := true }
def FnExactMatrixKernelUptoSaid : Prop := fnExactMatrixKernelUptoRow.holds Try.pinned (OpenSpec.upto fnExactMatrixKernelSpec)

/-- 'laws.FnExactCircuitValues', WHERE WHAT IT READS IS OF BULK AT MOST 1048576: true; the input reads as it did. -/
def fnExactCircuitValuesUptoRow : OpenClaim := { program := "ytbnobkojkfmccaa", sum := "d8f984164d20d6c7edf5d184283f7b7b4e98063dbe3f48453feecb905b397902", func := "loop.example/underveil/laws.FnExactCircuitValues", spec := "fnExactCircuitValues", unfollowed := true, recurses := true, apart := false, narrowed := true }
def FnExactCircuitValuesUptoSaid : Prop := fnExactCircuitValuesUptoRow.holds Try.pinned (OpenSpec.upto fnExactCircuitValuesSpec)

/-- 'laws.FnExactCircuitRun', WHERE WHAT IT READS IS OF BULK AT MOST 1048576: true; the input reads as it did. -/
def fnExactCircuitRunUptoRow : OpenClaim := { program := "ytbnobkojkfmccaa", sum := "d8f984164d20d6c7edf5d184283f7b7b4e98063dbe3f48453feecb905b397902", func := "loop.example/underveil/laws.FnExactCircuitRun", spec := "fnExactCircuitRun", unfollowed := true, recurses := true, apart := false, narrowed := true }
def FnExactCircuitRunUptoSaid : Prop := fnExactCircuitRunUptoRow.holds Try.pinned (OpenSpec.upto fnExactCircuitRunSpec)

/-- 'laws.FnExactSharesExplain', WHERE WHAT IT READS IS OF BULK AT MOST 1048576: true; the input reads as it did. -/
def fnExactSharesExplainUptoRow : OpenClaim := { program := "ytbnobkojkfmccaa", sum := "d8f984164d20d6c7edf5d184283f7b7b4e98063dbe3f48453feecb905b397902", func := "loop.example/underveil/laws.FnExactSharesExplain", spec := "fnExactSharesExplain", apart := false, narrowed := true }
def FnExactSharesExplainUptoSaid : Prop := fnExactSharesExplainUptoRow.holds Try.pinned (OpenSpec.upto fnExactSharesExplainSpec)

/-- 'laws.FnSharesExplain', WHERE WHAT IT READS IS OF BULK AT MOST 1048576: true; the input reads as it did. -/
def fnSharesExplainUptoRow : OpenClaim := { program := "ytbnobkojkfmccaa", sum := "d8f984164d20d6c7edf5d184283f7b7b4e98063dbe3f48453feecb905b397902", func := "loop.example/underveil/laws.FnSharesExplain", spec := "fnSharesExplain", unfollowed := true, recurses := true, apart := false, narrowed := true }
def FnSharesExplainUptoSaid : Prop := fnSharesExplainUptoRow.holds Try.pinned (OpenSpec.upto fnSharesExplainSpec)

end Rows
end Go.Proofs.Ytbnobkojkfmccaa

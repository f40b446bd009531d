/-
  No cell of these rows narrows 'for every input' (looked for: loops, veiled, ifaces, maps, wideKeys, modest, calm, conditions, laid).
  DERIVED. THE GIVEN ROWS OF THIS SEAT. 12 by the template 'for every input the law returns true; each argument reads behind the call as it read before'; 0 by the template 'total and deterministic' (their statements: YtbmjepmlalfpgaaTotals.lean).
  GIVEN WITH THE SEED: the statements are not yours to turn. If you find one false, say at which input.
  Laid BY PROGRAM, IN A SANDBOX (cutbox-rows.mjs): the forced cells as the released guide's own fill.sh prints them over the translation b08c5ae8fd2ddbbe… (all of the seat's roots in one cut). By AI agents, Wed Nov 11 2026. No macro, syntax, notation, axiom, sorry.
-/
import Derived.Test.YtbmjepmlalfpgaaChecked
import GoSem.Claim
import GoSem.ClaimJoined
import GoSem.ClaimMapViews
import Derived.JoinedTies
import Derived.KernelRfl
namespace Go.Proofs.Ytbmjepmlalfpgaa
/- THE CELL 'sum', in the pinned program and in every row, IS THE sha256 OF THE DUMP (.gsa) THAT YtbmjepmlalfpgaaProg.lean LOADS. Nothing in Lean hashes anything: it is a label: what it is worth is what the hold of that sum in a sandbox is worth. -/
noncomputable def Try.pinned : Pinned := { name := "ytbmjepmlalfpgaa", sum := "b08c5ae8fd2ddbbe8f62f31157551217eb0d52bfa3c8e6406e554dc0d267ce6f", checked := Try.checked }
namespace Rows
def none {H : Type} : Left H := { results := [], args := [] }

/-- 'laws.FnCircuitDepth': WHATEVER THE INPUT: true; the input reads as it did. -/
def fnCircuitDepthSpec : ChangeSpec := { name := "fnCircuitDepth", fn := fun _ => fun
  | [d] => { results := [.lit (.bool true)], args := [d] }
  | _ => none }
def fnCircuitDepthRow : OpenClaim := { program := "ytbmjepmlalfpgaa", sum := "b08c5ae8fd2ddbbe8f62f31157551217eb0d52bfa3c8e6406e554dc0d267ce6f", func := "loop.example/underveil/laws.FnCircuitDepth", spec := "fnCircuitDepth", unfollowed := true, recurses := true, apart := false }
def FnCircuitDepthSaid : Prop := fnCircuitDepthRow.holds Try.pinned (OpenSpec.ofChange fnCircuitDepthSpec)

/-- ITS FALSE NEIGHBOUR: 'it returns false'. Refute it at one input. -/
def fnCircuitDepthWrong : ChangeSpec := { name := "fnCircuitDepth", fn := fun _ => fun
  | [d] => { results := [.lit (.bool false)], args := [d] }
  | _ => none }
def FnCircuitDepthWrongFalsely : Prop := fnCircuitDepthRow.holds Try.pinned (OpenSpec.ofChange fnCircuitDepthWrong)

/-- 'laws.FnPartiesNeed': WHATEVER THE INPUT: true; the input reads as it did. -/
def fnPartiesNeedSpec : ChangeSpec := { name := "fnPartiesNeed", fn := fun _ => fun
  | [d] => { results := [.lit (.bool true)], args := [d] }
  | _ => none }
def fnPartiesNeedRow : OpenClaim := { program := "ytbmjepmlalfpgaa", sum := "b08c5ae8fd2ddbbe8f62f31157551217eb0d52bfa3c8e6406e554dc0d267ce6f", func := "loop.example/underveil/laws.FnPartiesNeed", spec := "fnPartiesNeed", unfollowed := true, recurses := true, apart := false }
def FnPartiesNeedSaid : Prop := fnPartiesNeedRow.holds Try.pinned (OpenSpec.ofChange fnPartiesNeedSpec)

/-- ITS FALSE NEIGHBOUR: 'it returns false'. Refute it at one input. -/
def fnPartiesNeedWrong : ChangeSpec := { name := "fnPartiesNeed", fn := fun _ => fun
  | [d] => { results := [.lit (.bool false)], args := [d] }
  | _ => none }
def FnPartiesNeedWrongFalsely : Prop := fnPartiesNeedRow.holds Try.pinned (OpenSpec.ofChange fnPartiesNeedWrong)

/-- 'laws.FnExactSharesAdd': WHATEVER THE INPUT: true; the input reads as it did. -/
def fnExactSharesAddSpec : ChangeSpec := { name := "fnExactSharesAdd", fn := fun _ => fun
  | [d1, d2] => { results := [.lit (.bool true)], args := [d1, d2] }
  | _ => none }
def fnExactSharesAddRow : OpenClaim := { program := "ytbmjepmlalfpgaa", sum := "b08c5ae8fd2ddbbe8f62f31157551217eb0d52bfa3c8e6406e554dc0d267ce6f", func := "loop.example/underveil/laws.FnExactSharesAdd", spec := "fnExactSharesAdd", unfollowed := true, recurses := true, apart := false }
def FnExactSharesAddSaid : Prop := fnExactSharesAddRow.holds Try.pinned (OpenSpec.ofChange fnExactSharesAddSpec)

/-- ITS FALSE NEIGHBOUR: 'it returns false'. Refute it at one input. -/
def fnExactSharesAddWrong : ChangeSpec := { name := "fnExactSharesAdd", fn := fun _ => fun
  | [d1, d2] => { results := [.lit (.bool false)], args := [d1, d2] }
  | _ => none }
def FnExactSharesAddWrongFalsely : Prop := fnExactSharesAddRow.holds Try.pinned (OpenSpec.ofChange fnExactSharesAddWrong)

/-- 'laws.FnExactCircuitOk': WHATEVER THE INPUT: true; the input reads as it did. -/
def fnExactCircuitOkSpec : ChangeSpec := { name := "fnExactCircuitOk", fn := fun _ => fun
  | [d] => { results := [.lit (.bool true)], args := [d] }
  | _ => none }
def fnExactCircuitOkRow : OpenClaim := { program := "ytbmjepmlalfpgaa", sum := "b08c5ae8fd2ddbbe8f62f31157551217eb0d52bfa3c8e6406e554dc0d267ce6f", func := "loop.example/underveil/laws.FnExactCircuitOk", spec := "fnExactCircuitOk", unfollowed := true, recurses := true, apart := false }
def FnExactCircuitOkSaid : Prop := fnExactCircuitOkRow.holds Try.pinned (OpenSpec.ofChange fnExactCircuitOkSpec)

/-- ITS FALSE NEIGHBOUR: 'it returns false'. Refute it at one input. -/
def fnExactCircuitOkWrong : ChangeSpec := { name := "fnExactCircuitOk", fn := fun _ => fun
  | [d] => { results := [.lit (.bool false)], args := [d] }
  | _ => none }
def FnExactCircuitOkWrongFalsely : Prop := fnExactCircuitOkRow.holds Try.pinned (OpenSpec.ofChange fnExactCircuitOkWrong)

/-- 'laws.FnExactCircuitValues': WHATEVER THE INPUT: true; the input reads as it did. -/
def fnExactCircuitValuesSpec : ChangeSpec := { name := "fnExactCircuitValues", fn := fun _ => fun
  | [d1, d2] => { results := [.lit (.bool true)], args := [d1, d2] }
  | _ => none }
def fnExactCircuitValuesRow : OpenClaim := { program := "ytbmjepmlalfpgaa", sum := "b08c5ae8fd2ddbbe8f62f31157551217eb0d52bfa3c8e6406e554dc0d267ce6f", func := "loop.example/underveil/laws.FnExactCircuitValues", spec := "fnExactCircuitValues", unfollowed := true, recurses := true, apart := false }
def FnExactCircuitValuesSaid : Prop := fnExactCircuitValuesRow.holds Try.pinned (OpenSpec.ofChange fnExactCircuitValuesSpec)

/-- ITS FALSE NEIGHBOUR: 'it returns false'. Refute it at one input. -/
def fnExactCircuitValuesWrong : ChangeSpec := { name := "fnExactCircuitValues", fn := fun _ => fun
  | [d1, d2] => { results := [.lit (.bool false)], args := [d1, d2] }
  | _ => none }
def FnExactCircuitValuesWrongFalsely : Prop := fnExactCircuitValuesRow.holds Try.pinned (OpenSpec.ofChange fnExactCircuitValuesWrong)

/-- 'laws.FnExactCircuitRun': WHATEVER THE INPUT: true; the input reads as it did. -/
def fnExactCircuitRunSpec : ChangeSpec := { name := "fnExactCircuitRun", fn := fun _ => fun
  | [d1, d2] => { results := [.lit (.bool true)], args := [d1, d2] }
  | _ => none }
def fnExactCircuitRunRow : OpenClaim := { program := "ytbmjepmlalfpgaa", sum := "b08c5ae8fd2ddbbe8f62f31157551217eb0d52bfa3c8e6406e554dc0d267ce6f", func := "loop.example/underveil/laws.FnExactCircuitRun", spec := "fnExactCircuitRun", unfollowed := true, recurses := true, apart := false }
def FnExactCircuitRunSaid : Prop := fnExactCircuitRunRow.holds Try.pinned (OpenSpec.ofChange fnExactCircuitRunSpec)

/-- ITS FALSE NEIGHBOUR: 'it returns false'. Refute it at one input. -/
def fnExactCircuitRunWrong : ChangeSpec := { name := "fnExactCircuitRun", fn := fun _ => fun
  | [d1, d2] => { results := [.lit (.bool false)], args := [d1, d2] }
  | _ => none }
def FnExactCircuitRunWrongFalsely : Prop := fnExactCircuitRunRow.holds Try.pinned (OpenSpec.ofChange fnExactCircuitRunWrong)

/-- 'laws.FnExactCircuitDepth': WHATEVER THE INPUT: true; the input reads as it did. -/
def fnExactCircuitDepthSpec : ChangeSpec := { name := "fnExactCircuitDepth", fn := fun _ => fun
  | [d] => { results := [.lit (.bool true)], args := [d] }
  | _ => none }
def fnExactCircuitDepthRow : OpenClaim := { program := "ytbmjepmlalfpgaa", sum := "b08c5ae8fd2ddbbe8f62f31157551217eb0d52bfa3c8e6406e554dc0d267ce6f", func := "loop.example/underveil/laws.FnExactCircuitDepth", spec := "fnExactCircuitDepth", unfollowed := true, recurses := true, apart := false }
def FnExactCircuitDepthSaid : Prop := fnExactCircuitDepthRow.holds Try.pinned (OpenSpec.ofChange fnExactCircuitDepthSpec)

/-- ITS FALSE NEIGHBOUR: 'it returns false'. Refute it at one input. -/
def fnExactCircuitDepthWrong : ChangeSpec := { name := "fnExactCircuitDepth", fn := fun _ => fun
  | [d] => { results := [.lit (.bool false)], args := [d] }
  | _ => none }
def FnExactCircuitDepthWrongFalsely : Prop := fnExactCircuitDepthRow.holds Try.pinned (OpenSpec.ofChange fnExactCircuitDepthWrong)

/-- 'laws.FnExactCircuitDegree': WHATEVER THE INPUT: true; the input reads as it did. -/
def fnExactCircuitDegreeSpec : ChangeSpec := { name := "fnExactCircuitDegree", fn := fun _ => fun
  | [d] => { results := [.lit (.bool true)], args := [d] }
  | _ => none }
def fnExactCircuitDegreeRow : OpenClaim := { program := "ytbmjepmlalfpgaa", sum := "b08c5ae8fd2ddbbe8f62f31157551217eb0d52bfa3c8e6406e554dc0d267ce6f", func := "loop.example/underveil/laws.FnExactCircuitDegree", spec := "fnExactCircuitDegree", unfollowed := true, recurses := true, apart := false }
def FnExactCircuitDegreeSaid : Prop := fnExactCircuitDegreeRow.holds Try.pinned (OpenSpec.ofChange fnExactCircuitDegreeSpec)

/-- ITS FALSE NEIGHBOUR: 'it returns false'. Refute it at one input. -/
def fnExactCircuitDegreeWrong : ChangeSpec := { name := "fnExactCircuitDegree", fn := fun _ => fun
  | [d] => { results := [.lit (.bool false)], args := [d] }
  | _ => none }
def FnExactCircuitDegreeWrongFalsely : Prop := fnExactCircuitDegreeRow.holds Try.pinned (OpenSpec.ofChange fnExactCircuitDegreeWrong)

/-- 'laws.FnExactCircuitJoin': WHATEVER THE INPUT: true; the input reads as it did. -/
def fnExactCircuitJoinSpec : ChangeSpec := { name := "fnExactCircuitJoin", fn := fun _ => fun
  | [d1, d2] => { results := [.lit (.bool true)], args := [d1, d2] }
  | _ => none }
def fnExactCircuitJoinRow : OpenClaim := { program := "ytbmjepmlalfpgaa", sum := "b08c5ae8fd2ddbbe8f62f31157551217eb0d52bfa3c8e6406e554dc0d267ce6f", func := "loop.example/underveil/laws.FnExactCircuitJoin", spec := "fnExactCircuitJoin", unfollowed := true, recurses := true, apart := false }
def FnExactCircuitJoinSaid : Prop := fnExactCircuitJoinRow.holds Try.pinned (OpenSpec.ofChange fnExactCircuitJoinSpec)

/-- ITS FALSE NEIGHBOUR: 'it returns false'. Refute it at one input. -/
def fnExactCircuitJoinWrong : ChangeSpec := { name := "fnExactCircuitJoin", fn := fun _ => fun
  | [d1, d2] => { results := [.lit (.bool false)], args := [d1, d2] }
  | _ => none }
def FnExactCircuitJoinWrongFalsely : Prop := fnExactCircuitJoinRow.holds Try.pinned (OpenSpec.ofChange fnExactCircuitJoinWrong)

/-- 'laws.FnExactPartiesNeed': WHATEVER THE INPUT: true; the input reads as it did. -/
def fnExactPartiesNeedSpec : ChangeSpec := { name := "fnExactPartiesNeed", fn := fun _ => fun
  | [d1, d2, d3] => { results := [.lit (.bool true)], args := [d1, d2, d3] }
  | _ => none }
def fnExactPartiesNeedRow : OpenClaim := { program := "ytbmjepmlalfpgaa", sum := "b08c5ae8fd2ddbbe8f62f31157551217eb0d52bfa3c8e6406e554dc0d267ce6f", func := "loop.example/underveil/laws.FnExactPartiesNeed", spec := "fnExactPartiesNeed", unfollowed := true, recurses := true, apart := false }
def FnExactPartiesNeedSaid : Prop := fnExactPartiesNeedRow.holds Try.pinned (OpenSpec.ofChange fnExactPartiesNeedSpec)

/-- ITS FALSE NEIGHBOUR: 'it returns false'. Refute it at one input. -/
def fnExactPartiesNeedWrong : ChangeSpec := { name := "fnExactPartiesNeed", fn := fun _ => fun
  | [d1, d2, d3] => { results := [.lit (.bool false)], args := [d1, d2, d3] }
  | _ => none }
def FnExactPartiesNeedWrongFalsely : Prop := fnExactPartiesNeedRow.holds Try.pinned (OpenSpec.ofChange fnExactPartiesNeedWrong)

/-- 'laws.FnExactPartiesWeight': WHATEVER THE INPUT: true; the input reads as it did. -/
def fnExactPartiesWeightSpec : ChangeSpec := { name := "fnExactPartiesWeight", fn := fun _ => fun
  | [d1, d2] => { results := [.lit (.bool true)], args := [d1, d2] }
  | _ => none }
def fnExactPartiesWeightRow : OpenClaim := { program := "ytbmjepmlalfpgaa", sum := "b08c5ae8fd2ddbbe8f62f31157551217eb0d52bfa3c8e6406e554dc0d267ce6f", func := "loop.example/underveil/laws.FnExactPartiesWeight", spec := "fnExactPartiesWeight", unfollowed := true, recurses := true, apart := false }
def FnExactPartiesWeightSaid : Prop := fnExactPartiesWeightRow.holds Try.pinned (OpenSpec.ofChange fnExactPartiesWeightSpec)

/-- ITS FALSE NEIGHBOUR: 'it returns false'. Refute it at one input. -/
def fnExactPartiesWeightWrong : ChangeSpec := { name := "fnExactPartiesWeight", fn := fun _ => fun
  | [d1, d2] => { results := [.lit (.bool false)], args := [d1, d2] }
  | _ => none }
def FnExactPartiesWeightWrongFalsely : Prop := fnExactPartiesWeightRow.holds Try.pinned (OpenSpec.ofChange fnExactPartiesWeightWrong)

/-- 'laws.FnExactPartiesSeen': WHATEVER THE INPUT: true; the input reads as it did. -/
def fnExactPartiesSeenSpec : ChangeSpec := { name := "fnExactPartiesSeen", fn := fun _ => fun
  | [d1, d2] => { results := [.lit (.bool true)], args := [d1, d2] }
  | _ => none }
def fnExactPartiesSeenRow : OpenClaim := { program := "ytbmjepmlalfpgaa", sum := "b08c5ae8fd2ddbbe8f62f31157551217eb0d52bfa3c8e6406e554dc0d267ce6f", func := "loop.example/underveil/laws.FnExactPartiesSeen", spec := "fnExactPartiesSeen", apart := false }
def FnExactPartiesSeenSaid : Prop := fnExactPartiesSeenRow.holds Try.pinned (OpenSpec.ofChange fnExactPartiesSeenSpec)

/-- ITS FALSE NEIGHBOUR: 'it returns false'. Refute it at one input. -/
def fnExactPartiesSeenWrong : ChangeSpec := { name := "fnExactPartiesSeen", fn := fun _ => fun
  | [d1, d2] => { results := [.lit (.bool false)], args := [d1, d2] }
  | _ => none }
def FnExactPartiesSeenWrongFalsely : Prop := fnExactPartiesSeenRow.holds Try.pinned (OpenSpec.ofChange fnExactPartiesSeenWrong)

/- THE SECOND FORM. 'bulk': how many values and letters a reading holds, each counted each time it is reached (what is shared counts as often as it is met; a slice's spare places count too). A statement '..UptoSaid' is the law's where the arguments, and the package variables that the reading takes, are together of bulk at most 1048576: NARROWER than '..Said'. Prove '..Said' where nothing that the law and all that it calls make is longer than what came in: it says more and counts as full. Else prove '..UptoSaid'. A law counts once. -/
mutual
def uptoBulk {H : Type} : DataW H → Nat
  | .lit (.string bytes) => bytes.length + 1
  | .lit _ => 1
  | .nil => 1
  | .ptr d => uptoBulk d + 1
  | .slice elems spare => uptoBulkAll elems + uptoBulkAll spare + 1
  | .agg parts => uptoBulkAll parts + 1
  | .iface _ d => uptoBulk d + 1
  | .map entries => uptoBulkEntries entries + 1
  | .held _ => 1
def uptoBulkAll {H : Type} : List (DataW H) → Nat
  | [] => 0
  | d :: r => uptoBulk d + uptoBulkAll r
def uptoBulkEntries {H : Type} : List (Lit × DataW H) → Nat
  | [] => 0
  | x :: r => uptoBulkEntry x + uptoBulkEntries r
def uptoBulkEntry {H : Type} : Lit × DataW H → Nat
  | (.string bytes, d) => bytes.length + uptoBulk d + 1
  | (_, d) => uptoBulk d + 1
 end
def uptoSmall : (H : Type) → List (DataW H) → Bool := fun _ ds => decide (uptoBulkAll ds ≤ 1048576)
def OpenSpec.upto (s : _root_.Go.ChangeSpec) : _root_.Go.OpenSpec := { _root_.Go.OpenSpec.ofChange s with cond := some uptoSmall }

/-- 'laws.FnCircuitDepth', WHERE WHAT IT READS IS OF BULK AT MOST 1048576: true; the input reads as it did. -/
def fnCircuitDepthUptoRow : OpenClaim := { program := "ytbmjepmlalfpgaa", sum := "b08c5ae8fd2ddbbe8f62f31157551217eb0d52bfa3c8e6406e554dc0d267ce6f", func := "loop.example/underveil/laws.FnCircuitDepth", spec := "fnCircuitDepth", unfollowed := true, recurses := true, apart := false, narrowed := true }
def FnCircuitDepthUptoSaid : Prop := fnCircuitDepthUptoRow.holds Try.pinned (OpenSpec.upto fnCircuitDepthSpec)

/-- 'laws.FnPartiesNeed', WHERE WHAT IT READS IS OF BULK AT MOST 1048576: true; the input reads as it did. -/
def fnPartiesNeedUptoRow : OpenClaim := { program := "ytbmjepmlalfpgaa", sum := "b08c5ae8fd2ddbbe8f62f31157551217eb0d52bfa3c8e6406e554dc0d267ce6f", func := "loop.example/underveil/laws.FnPartiesNeed", spec := "fnPartiesNeed", unfollowed := true, recurses := true, apart := false, narrowed := true }
def FnPartiesNeedUptoSaid : Prop := fnPartiesNeedUptoRow.holds Try.pinned (OpenSpec.upto fnPartiesNeedSpec)

/-- 'laws.FnExactSharesAdd', WHERE WHAT IT READS IS OF BULK AT MOST 1048576: true; the input reads as it did. -/
def fnExactSharesAddUptoRow : OpenClaim := { program := "ytbmjepmlalfpgaa", sum := "b08c5ae8fd2ddbbe8f62f31157551217eb0d52bfa3c8e6406e554dc0d267ce6f", func := "loop.example/underveil/laws.FnExactSharesAdd", spec := "fnExactSharesAdd", unfollowed := true, recurses := true, apart := false, narrowed := true }
def FnExactSharesAddUptoSaid : Prop := fnExactSharesAddUptoRow.holds Try.pinned (OpenSpec.upto fnExactSharesAddSpec)

/-- 'laws.FnExactCircuitOk', WHERE WHAT IT READS IS OF BULK AT MOST 1048576: true; the input reads as it did. -/
def fnExactCircuitOkUptoRow : OpenClaim := { program := "ytbmjepmlalfpgaa", sum := "b08c5ae8fd2ddbbe8f62f31157551217eb0d52bfa3c8e6406e554dc0d267ce6f", func := "loop.example/underveil/laws.FnExactCircuitOk", spec := "fnExactCircuitOk", unfollowed := true, recurses := true, apart := false, narrowed := true }
def FnExactCircuitOkUptoSaid : Prop := fnExactCircuitOkUptoRow.holds Try.pinned (OpenSpec.upto fnExactCircuitOkSpec)

/-- 'laws.FnExactCircuitValues', WHERE WHAT IT READS IS OF BULK AT MOST 1048576: true; the input reads as it did. -/
def fnExactCircuitValuesUptoRow : OpenClaim := { program := "ytbmjepmlalfpgaa", sum := "b08c5ae8fd2ddbbe8f62f31157551217eb0d52bfa3c8e6406e554dc0d267ce6f", func := "loop.example/underveil/laws.FnExactCircuitValues", spec := "fnExactCircuitValues", unfollowed := true, recurses := true, apart := false, narrowed := true }
def FnExactCircuitValuesUptoSaid : Prop := fnExactCircuitValuesUptoRow.holds Try.pinned (OpenSpec.upto fnExactCircuitValuesSpec)

/-- 'laws.FnExactCircuitRun', WHERE WHAT IT READS IS OF BULK AT MOST 1048576: true; the input reads as it did. -/
def fnExactCircuitRunUptoRow : OpenClaim := { program := "ytbmjepmlalfpgaa", sum := "b08c5ae8fd2ddbbe8f62f31157551217eb0d52bfa3c8e6406e554dc0d267ce6f", func := "loop.example/underveil/laws.FnExactCircuitRun", spec := "fnExactCircuitRun", unfollowed := true, recurses := true, apart := false, narrowed := true }
def FnExactCircuitRunUptoSaid : Prop := fnExactCircuitRunUptoRow.holds Try.pinned (OpenSpec.upto fnExactCircuitRunSpec)

/-- 'laws.FnExactCircuitDepth', WHERE WHAT IT READS IS OF BULK AT MOST 1048576: true; the input reads as it did. -/
def fnExactCircuitDepthUptoRow : OpenClaim := { program := "ytbmjepmlalfpgaa", sum := "b08c5ae8fd2ddbbe8f62f31157551217eb0d52bfa3c8e6406e554dc0d267ce6f", func := "loop.example/underveil/laws.FnExactCircuitDepth", spec := "fnExactCircuitDepth", unfollowed := true, recurses := true, apart := false, narrowed := true }
def FnExactCircuitDepthUptoSaid : Prop := fnExactCircuitDepthUptoRow.holds Try.pinned (OpenSpec.upto fnExactCircuitDepthSpec)

/-- 'laws.FnExactCircuitDegree', WHERE WHAT IT READS IS OF BULK AT MOST 1048576: true; the input reads as it did. -/
def fnExactCircuitDegreeUptoRow : OpenClaim := { program := "ytbmjepmlalfpgaa", sum := "b08c5ae8fd2ddbbe8f62f31157551217eb0d52bfa3c8e6406e554dc0d267ce6f", func := "loop.example/underveil/laws.FnExactCircuitDegree", spec := "fnExactCircuitDegree", unfollowed := true, recurses := true, apart := false, narrowed := true }
def FnExactCircuitDegreeUptoSaid : Prop := fnExactCircuitDegreeUptoRow.holds Try.pinned (OpenSpec.upto fnExactCircuitDegreeSpec)

/-- 'laws.FnExactCircuitJoin', WHERE WHAT IT READS IS OF BULK AT MOST 1048576: true; the input reads as it did. -/
def fnExactCircuitJoinUptoRow : OpenClaim := { program := "ytbmjepmlalfpgaa", sum := "b08c5ae8fd2ddbbe8f62f31157551217eb0d52bfa3c8e6406e554dc0d267ce6f", func := "loop.example/underveil/laws.FnExactCircuitJoin", spec := "fnExactCircuitJoin", unfollowed := true, recurses := true, apart := false, narrowed := true }
def FnExactCircuitJoinUptoSaid : Prop := fnExactCircuitJoinUptoRow.holds Try.pinned (OpenSpec.upto fnExactCircuitJoinSpec)

/-- 'laws.FnExactPartiesNeed', WHERE WHAT IT READS IS OF BULK AT MOST 1048576: true; the input reads as it did. -/
def fnExactPartiesNeedUptoRow : OpenClaim := { program := "ytbmjepmlalfpgaa", sum := "b08c5ae8fd2ddbbe8f62f31157551217eb0d52bfa3c8e6406e554dc0d267ce6f", func := "loop.example/underveil/laws.FnExactPartiesNeed", spec := "fnExactPartiesNeed", unfollowed := true, recurses := true, apart := false, narrowed := true }
def FnExactPartiesNeedUptoSaid : Prop := fnExactPartiesNeedUptoRow.holds Try.pinned (OpenSpec.upto fnExactPartiesNeedSpec)

/-- 'laws.FnExactPartiesWeight', WHERE WHAT IT READS IS OF BULK AT MOST 1048576: true; the input reads as it did. -/
def fnExactPartiesWeightUptoRow : OpenClaim := { program := "ytbmjepmlalfpgaa", sum := "b08c5ae8fd2ddbbe8f62f31157551217eb0d52bfa3c8e6406e554dc0d267ce6f", func := "loop.example/underveil/laws.FnExactPartiesWeight", spec := "fnExactPartiesWeight", unfollowed := true, recurses := true, apart := false, narrowed := true }
def FnExactPartiesWeightUptoSaid : Prop := fnExactPartiesWeightUptoRow.holds Try.pinned (OpenSpec.upto fnExactPartiesWeightSpec)

/-- 'laws.FnExactPartiesSeen', WHERE WHAT IT READS IS OF BULK AT MOST 1048576: true; the input reads as it did. -/
def fnExactPartiesSeenUptoRow : OpenClaim := { program := "ytbmjepmlalfpgaa", sum := "b08c5ae8fd2ddbbe8f62f31157551217eb0d52bfa3c8e6406e554dc0d267ce6f", func := "loop.example/underveil/laws.FnExactPartiesSeen", spec := "fnExactPartiesSeen", apart := false, narrowed := true }
def FnExactPartiesSeenUptoSaid : Prop := fnExactPartiesSeenUptoRow.holds Try.pinned (OpenSpec.upto fnExactPartiesSeenSpec)

end Rows
end Go.Proofs.Ytbmjepmlalfpgaa

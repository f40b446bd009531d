/-
  No cell of these rows narrows 'for every input' (looked for: loops, veiled, ifaces, maps, wideKeys, modest, calm, conditions, laid).
  DERIVED. THE GIVEN ROWS OF THIS SEAT. 10 by the template 'for every input the law returns true; each argument reads behind the call as it read before'; 0 by the template 'total and deterministic' (their statements: YtaiilopfdjbceaaTotals.lean).
  GIVEN WITH THE SEED: the statements are not yours to turn. If you find one false, say at which input.
  Laid BY PROGRAM, IN A SANDBOX (cutbox-rows.mjs): the forced cells as the released guide's own fill.sh prints them over the translation f5a3ad9a0154d86c… (all of the seat's roots in one cut). By AI agents, Wed Nov 11 2026. No macro, syntax, notation, axiom, sorry.
-/
import Derived.Test.YtaiilopfdjbceaaChecked
import GoSem.Claim
import GoSem.ClaimJoined
import GoSem.ClaimMapViews
import Derived.JoinedTies
import Derived.KernelRfl
namespace Go.Proofs.Ytaiilopfdjbceaa
/- THE CELL 'sum', in the pinned program and in every row, IS THE sha256 OF THE DUMP (.gsa) THAT YtaiilopfdjbceaaProg.lean LOADS. Nothing in Lean hashes anything: it is a label: what it is worth is what the hold of that sum in a sandbox is worth. -/
noncomputable def Try.pinned : Pinned := { name := "ytaiilopfdjbceaa", sum := "f5a3ad9a0154d86c019c647dfb0c8dcb47ffc35d0c7c0a4800ad1512b28ec313", checked := Try.checked }
namespace Rows
def none {H : Type} : Left H := { results := [], args := [] }

/-- 'laws.FnExactCubeOk': WHATEVER THE INPUT: true; the input reads as it did. -/
def fnExactCubeOkSpec : ChangeSpec := { name := "fnExactCubeOk", fn := fun _ => fun
  | [d] => { results := [.lit (.bool true)], args := [d] }
  | _ => none }
def fnExactCubeOkRow : OpenClaim := { program := "ytaiilopfdjbceaa", sum := "f5a3ad9a0154d86c019c647dfb0c8dcb47ffc35d0c7c0a4800ad1512b28ec313", func := "loop.example/underveil/laws.FnExactCubeOk", spec := "fnExactCubeOk", apart := false }
def FnExactCubeOkSaid : Prop := fnExactCubeOkRow.holds Try.pinned (OpenSpec.ofChange fnExactCubeOkSpec)

/-- ITS FALSE NEIGHBOUR: 'it returns false'. Refute it at one input. -/
def fnExactCubeOkWrong : ChangeSpec := { name := "fnExactCubeOk", fn := fun _ => fun
  | [d] => { results := [.lit (.bool false)], args := [d] }
  | _ => none }
def FnExactCubeOkWrongFalsely : Prop := fnExactCubeOkRow.holds Try.pinned (OpenSpec.ofChange fnExactCubeOkWrong)

/-- 'laws.FnExactCubeSum': WHATEVER THE INPUT: true; the input reads as it did. -/
def fnExactCubeSumSpec : ChangeSpec := { name := "fnExactCubeSum", fn := fun _ => fun
  | [d] => { results := [.lit (.bool true)], args := [d] }
  | _ => none }
def fnExactCubeSumRow : OpenClaim := { program := "ytaiilopfdjbceaa", sum := "f5a3ad9a0154d86c019c647dfb0c8dcb47ffc35d0c7c0a4800ad1512b28ec313", func := "loop.example/underveil/laws.FnExactCubeSum", spec := "fnExactCubeSum", apart := false }
def FnExactCubeSumSaid : Prop := fnExactCubeSumRow.holds Try.pinned (OpenSpec.ofChange fnExactCubeSumSpec)

/-- ITS FALSE NEIGHBOUR: 'it returns false'. Refute it at one input. -/
def fnExactCubeSumWrong : ChangeSpec := { name := "fnExactCubeSum", fn := fun _ => fun
  | [d] => { results := [.lit (.bool false)], args := [d] }
  | _ => none }
def FnExactCubeSumWrongFalsely : Prop := fnExactCubeSumRow.holds Try.pinned (OpenSpec.ofChange fnExactCubeSumWrong)

/-- 'laws.FnExactCubeAt': WHATEVER THE INPUT: true; the input reads as it did. -/
def fnExactCubeAtSpec : ChangeSpec := { name := "fnExactCubeAt", fn := fun _ => fun
  | [d1, d2] => { results := [.lit (.bool true)], args := [d1, d2] }
  | _ => none }
def fnExactCubeAtRow : OpenClaim := { program := "ytaiilopfdjbceaa", sum := "f5a3ad9a0154d86c019c647dfb0c8dcb47ffc35d0c7c0a4800ad1512b28ec313", func := "loop.example/underveil/laws.FnExactCubeAt", spec := "fnExactCubeAt", unfollowed := true, recurses := true, apart := false }
def FnExactCubeAtSaid : Prop := fnExactCubeAtRow.holds Try.pinned (OpenSpec.ofChange fnExactCubeAtSpec)

/-- ITS FALSE NEIGHBOUR: 'it returns false'. Refute it at one input. -/
def fnExactCubeAtWrong : ChangeSpec := { name := "fnExactCubeAt", fn := fun _ => fun
  | [d1, d2] => { results := [.lit (.bool false)], args := [d1, d2] }
  | _ => none }
def FnExactCubeAtWrongFalsely : Prop := fnExactCubeAtRow.holds Try.pinned (OpenSpec.ofChange fnExactCubeAtWrong)

/-- 'laws.FnExactCubeProve': WHATEVER THE INPUT: true; the input reads as it did. -/
def fnExactCubeProveSpec : ChangeSpec := { name := "fnExactCubeProve", fn := fun _ => fun
  | [d1, d2] => { results := [.lit (.bool true)], args := [d1, d2] }
  | _ => none }
def fnExactCubeProveRow : OpenClaim := { program := "ytaiilopfdjbceaa", sum := "f5a3ad9a0154d86c019c647dfb0c8dcb47ffc35d0c7c0a4800ad1512b28ec313", func := "loop.example/underveil/laws.FnExactCubeProve", spec := "fnExactCubeProve", unfollowed := true, recurses := true, apart := false }
def FnExactCubeProveSaid : Prop := fnExactCubeProveRow.holds Try.pinned (OpenSpec.ofChange fnExactCubeProveSpec)

/-- ITS FALSE NEIGHBOUR: 'it returns false'. Refute it at one input. -/
def fnExactCubeProveWrong : ChangeSpec := { name := "fnExactCubeProve", fn := fun _ => fun
  | [d1, d2] => { results := [.lit (.bool false)], args := [d1, d2] }
  | _ => none }
def FnExactCubeProveWrongFalsely : Prop := fnExactCubeProveRow.holds Try.pinned (OpenSpec.ofChange fnExactCubeProveWrong)

/-- 'laws.FnExactCubeCheck': WHATEVER THE INPUT: true; the input reads as it did. -/
def fnExactCubeCheckSpec : ChangeSpec := { name := "fnExactCubeCheck", fn := fun _ => fun
  | [d1, d2, d3, d4] => { results := [.lit (.bool true)], args := [d1, d2, d3, d4] }
  | _ => none }
def fnExactCubeCheckRow : OpenClaim := { program := "ytaiilopfdjbceaa", sum := "f5a3ad9a0154d86c019c647dfb0c8dcb47ffc35d0c7c0a4800ad1512b28ec313", func := "loop.example/underveil/laws.FnExactCubeCheck", spec := "fnExactCubeCheck", unfollowed := true, recurses := true, apart := false }
def FnExactCubeCheckSaid : Prop := fnExactCubeCheckRow.holds Try.pinned (OpenSpec.ofChange fnExactCubeCheckSpec)

/-- ITS FALSE NEIGHBOUR: 'it returns false'. Refute it at one input. -/
def fnExactCubeCheckWrong : ChangeSpec := { name := "fnExactCubeCheck", fn := fun _ => fun
  | [d1, d2, d3, d4] => { results := [.lit (.bool false)], args := [d1, d2, d3, d4] }
  | _ => none }
def FnExactCubeCheckWrongFalsely : Prop := fnExactCubeCheckRow.holds Try.pinned (OpenSpec.ofChange fnExactCubeCheckWrong)

/-- 'laws.FnExactCubeTricks': WHATEVER THE INPUT: true; the input reads as it did. -/
def fnExactCubeTricksSpec : ChangeSpec := { name := "fnExactCubeTricks", fn := fun _ => fun
  | [d1, d2] => { results := [.lit (.bool true)], args := [d1, d2] }
  | _ => none }
def fnExactCubeTricksRow : OpenClaim := { program := "ytaiilopfdjbceaa", sum := "f5a3ad9a0154d86c019c647dfb0c8dcb47ffc35d0c7c0a4800ad1512b28ec313", func := "loop.example/underveil/laws.FnExactCubeTricks", spec := "fnExactCubeTricks", unfollowed := true, recurses := true, apart := false }
def FnExactCubeTricksSaid : Prop := fnExactCubeTricksRow.holds Try.pinned (OpenSpec.ofChange fnExactCubeTricksSpec)

/-- ITS FALSE NEIGHBOUR: 'it returns false'. Refute it at one input. -/
def fnExactCubeTricksWrong : ChangeSpec := { name := "fnExactCubeTricks", fn := fun _ => fun
  | [d1, d2] => { results := [.lit (.bool false)], args := [d1, d2] }
  | _ => none }
def FnExactCubeTricksWrongFalsely : Prop := fnExactCubeTricksRow.holds Try.pinned (OpenSpec.ofChange fnExactCubeTricksWrong)

/-- 'laws.FnExactCubeLies': WHATEVER THE INPUT: true; the input reads as it did. -/
def fnExactCubeLiesSpec : ChangeSpec := { name := "fnExactCubeLies", fn := fun _ => fun
  | [d1, d2, d3, d4] => { results := [.lit (.bool true)], args := [d1, d2, d3, d4] }
  | _ => none }
def fnExactCubeLiesRow : OpenClaim := { program := "ytaiilopfdjbceaa", sum := "f5a3ad9a0154d86c019c647dfb0c8dcb47ffc35d0c7c0a4800ad1512b28ec313", func := "loop.example/underveil/laws.FnExactCubeLies", spec := "fnExactCubeLies", unfollowed := true, recurses := true, apart := false }
def FnExactCubeLiesSaid : Prop := fnExactCubeLiesRow.holds Try.pinned (OpenSpec.ofChange fnExactCubeLiesSpec)

/-- ITS FALSE NEIGHBOUR: 'it returns false'. Refute it at one input. -/
def fnExactCubeLiesWrong : ChangeSpec := { name := "fnExactCubeLies", fn := fun _ => fun
  | [d1, d2, d3, d4] => { results := [.lit (.bool false)], args := [d1, d2, d3, d4] }
  | _ => none }
def FnExactCubeLiesWrongFalsely : Prop := fnExactCubeLiesRow.holds Try.pinned (OpenSpec.ofChange fnExactCubeLiesWrong)

/-- 'laws.FnCubeTricks': WHATEVER THE INPUT: true; the input reads as it did. -/
def fnCubeTricksSpec : ChangeSpec := { name := "fnCubeTricks", fn := fun _ => fun
  | [d] => { results := [.lit (.bool true)], args := [d] }
  | _ => none }
def fnCubeTricksRow : OpenClaim := { program := "ytaiilopfdjbceaa", sum := "f5a3ad9a0154d86c019c647dfb0c8dcb47ffc35d0c7c0a4800ad1512b28ec313", func := "loop.example/underveil/laws.FnCubeTricks", spec := "fnCubeTricks", unfollowed := true, recurses := true, apart := false }
def FnCubeTricksSaid : Prop := fnCubeTricksRow.holds Try.pinned (OpenSpec.ofChange fnCubeTricksSpec)

/-- ITS FALSE NEIGHBOUR: 'it returns false'. Refute it at one input. -/
def fnCubeTricksWrong : ChangeSpec := { name := "fnCubeTricks", fn := fun _ => fun
  | [d] => { results := [.lit (.bool false)], args := [d] }
  | _ => none }
def FnCubeTricksWrongFalsely : Prop := fnCubeTricksRow.holds Try.pinned (OpenSpec.ofChange fnCubeTricksWrong)

/-- 'laws.FnProofGood': WHATEVER THE INPUT: true; the input reads as it did. -/
def fnProofGoodSpec : ChangeSpec := { name := "fnProofGood", fn := fun _ => fun
  | [d] => { results := [.lit (.bool true)], args := [d] }
  | _ => none }
def fnProofGoodRow : OpenClaim := { program := "ytaiilopfdjbceaa", sum := "f5a3ad9a0154d86c019c647dfb0c8dcb47ffc35d0c7c0a4800ad1512b28ec313", func := "loop.example/underveil/laws.FnProofGood", spec := "fnProofGood", apart := false }
def FnProofGoodSaid : Prop := fnProofGoodRow.holds Try.pinned (OpenSpec.ofChange fnProofGoodSpec)

/-- ITS FALSE NEIGHBOUR: 'it returns false'. Refute it at one input. -/
def fnProofGoodWrong : ChangeSpec := { name := "fnProofGood", fn := fun _ => fun
  | [d] => { results := [.lit (.bool false)], args := [d] }
  | _ => none }
def FnProofGoodWrongFalsely : Prop := fnProofGoodRow.holds Try.pinned (OpenSpec.ofChange fnProofGoodWrong)

/-- 'laws.FnProofSecret': WHATEVER THE INPUT: true; the input reads as it did. -/
def fnProofSecretSpec : ChangeSpec := { name := "fnProofSecret", fn := fun _ => fun
  | [d] => { results := [.lit (.bool true)], args := [d] }
  | _ => none }
def fnProofSecretRow : OpenClaim := { program := "ytaiilopfdjbceaa", sum := "f5a3ad9a0154d86c019c647dfb0c8dcb47ffc35d0c7c0a4800ad1512b28ec313", func := "loop.example/underveil/laws.FnProofSecret", spec := "fnProofSecret", apart := false }
def FnProofSecretSaid : Prop := fnProofSecretRow.holds Try.pinned (OpenSpec.ofChange fnProofSecretSpec)

/-- ITS FALSE NEIGHBOUR: 'it returns false'. Refute it at one input. -/
def fnProofSecretWrong : ChangeSpec := { name := "fnProofSecret", fn := fun _ => fun
  | [d] => { results := [.lit (.bool false)], args := [d] }
  | _ => none }
def FnProofSecretWrongFalsely : Prop := fnProofSecretRow.holds Try.pinned (OpenSpec.ofChange fnProofSecretWrong)

/- THE SECOND FORM. 'bulk': how many values and letters a reading holds, each counted each time it is reached (what is shared counts as often as it is met; a slice's spare places count too). A statement '..UptoSaid' is the law's where the arguments, and the package variables that the reading takes, are together of bulk at most 1048576: NARROWER than '..Said'. Prove '..Said' where nothing that the law and all that it calls make is longer than what came in: it says more and counts as full. Else prove '..UptoSaid'. A law counts once. -/
mutual
def uptoBulk {H : Type} : DataW H → Nat
  | .lit (.string bytes) => bytes.length + 1
  | .lit _ => 1
  | .nil => 1
  | .ptr d => uptoBulk d + 1
  | .slice elems spare => uptoBulkAll elems + uptoBulkAll spare + 1
  | .agg parts => uptoBulkAll parts + 1
  | .iface _ d => uptoBulk d + 1
  | .map entries => uptoBulkEntries entries + 1
  | .held _ => 1
def uptoBulkAll {H : Type} : List (DataW H) → Nat
  | [] => 0
  | d :: r => uptoBulk d + uptoBulkAll r
def uptoBulkEntries {H : Type} : List (Lit × DataW H) → Nat
  | [] => 0
  | x :: r => uptoBulkEntry x + uptoBulkEntries r
def uptoBulkEntry {H : Type} : Lit × DataW H → Nat
  | (.string bytes, d) => bytes.length + uptoBulk d + 1
  | (_, d) => uptoBulk d + 1
 end
def uptoSmall : (H : Type) → List (DataW H) → Bool := fun _ ds => decide (uptoBulkAll ds ≤ 1048576)
def OpenSpec.upto (s : _root_.Go.ChangeSpec) : _root_.Go.OpenSpec := { _root_.Go.OpenSpec.ofChange s with cond := some uptoSmall }

/-- 'laws.FnExactCubeOk', WHERE WHAT IT READS IS OF BULK AT MOST 1048576: true; the input reads as it did. -/
def fnExactCubeOkUptoRow : OpenClaim := { program := "ytaiilopfdjbceaa", sum := "f5a3ad9a0154d86c019c647dfb0c8dcb47ffc35d0c7c0a4800ad1512b28ec313", func := "loop.example/underveil/laws.FnExactCubeOk", spec := "fnExactCubeOk", apart := false, narrowed := true }
def FnExactCubeOkUptoSaid : Prop := fnExactCubeOkUptoRow.holds Try.pinned (OpenSpec.upto fnExactCubeOkSpec)

/-- 'laws.FnExactCubeSum', WHERE WHAT IT READS IS OF BULK AT MOST 1048576: true; the input reads as it did. -/
def fnExactCubeSumUptoRow : OpenClaim := { program := "ytaiilopfdjbceaa", sum := "f5a3ad9a0154d86c019c647dfb0c8dcb47ffc35d0c7c0a4800ad1512b28ec313", func := "loop.example/underveil/laws.FnExactCubeSum", spec := "fnExactCubeSum", apart := false, narrowed := true }
def FnExactCubeSumUptoSaid : Prop := fnExactCubeSumUptoRow.holds Try.pinned (OpenSpec.upto fnExactCubeSumSpec)

/-- 'laws.FnExactCubeAt', WHERE WHAT IT READS IS OF BULK AT MOST 1048576: true; the input reads as it did. -/
def fnExactCubeAtUptoRow : OpenClaim := { program := "ytaiilopfdjbceaa", sum := "f5a3ad9a0154d86c019c647dfb0c8dcb47ffc35d0c7c0a4800ad1512b28ec313", func := "loop.example/underveil/laws.FnExactCubeAt", spec := "fnExactCubeAt", unfollowed := true, recurses := true, apart := false, narrowed := true }
def FnExactCubeAtUptoSaid : Prop := fnExactCubeAtUptoRow.holds Try.pinned (OpenSpec.upto fnExactCubeAtSpec)

/-- 'laws.FnExactCubeProve', WHERE WHAT IT READS IS OF BULK AT MOST 1048576: true; the input reads as it did. -/
def fnExactCubeProveUptoRow : OpenClaim := { program := "ytaiilopfdjbceaa", sum := "f5a3ad9a0154d86c019c647dfb0c8dcb47ffc35d0c7c0a4800ad1512b28ec313", func := "loop.example/underveil/laws.FnExactCubeProve", spec := "fnExactCubeProve", unfollowed := true, recurses := true, apart := false, narrowed := true }
def FnExactCubeProveUptoSaid : Prop := fnExactCubeProveUptoRow.holds Try.pinned (OpenSpec.upto fnExactCubeProveSpec)

/-- 'laws.FnExactCubeCheck', WHERE WHAT IT READS IS OF BULK AT MOST 1048576: true; the input reads as it did. -/
def fnExactCubeCheckUptoRow : OpenClaim := { program := "ytaiilopfdjbceaa", sum := "f5a3ad9a0154d86c019c647dfb0c8dcb47ffc35d0c7c0a4800ad1512b28ec313", func := "loop.example/underveil/laws.FnExactCubeCheck", spec := "fnExactCubeCheck", unfollowed := true, recurses := true, apart := false, narrowed := true }
def FnExactCubeCheckUptoSaid : Prop := fnExactCubeCheckUptoRow.holds Try.pinned (OpenSpec.upto fnExactCubeCheckSpec)

/-- 'laws.FnExactCubeTricks', WHERE WHAT IT READS IS OF BULK AT MOST 1048576: true; the input reads as it did. -/
def fnExactCubeTricksUptoRow : OpenClaim := { program := "ytaiilopfdjbceaa", sum := "f5a3ad9a0154d86c019c647dfb0c8dcb47ffc35d0c7c0a4800ad1512b28ec313", func := "loop.example/underveil/laws.FnExactCubeTricks", spec := "fnExactCubeTricks", unfollowed := true, recurses := true, apart := false, narrowed := true }
def FnExactCubeTricksUptoSaid : Prop := fnExactCubeTricksUptoRow.holds Try.pinned (OpenSpec.upto fnExactCubeTricksSpec)

/-- 'laws.FnExactCubeLies', WHERE WHAT IT READS IS OF BULK AT MOST 1048576: true; the input reads as it did. -/
def fnExactCubeLiesUptoRow : OpenClaim := { program := "ytaiilopfdjbceaa", sum := "f5a3ad9a0154d86c019c647dfb0c8dcb47ffc35d0c7c0a4800ad1512b28ec313", func := "loop.example/underveil/laws.FnExactCubeLies", spec := "fnExactCubeLies", unfollowed := true, recurses := true, apart := false, narrowed := true }
def FnExactCubeLiesUptoSaid : Prop := fnExactCubeLiesUptoRow.holds Try.pinned (OpenSpec.upto fnExactCubeLiesSpec)

/-- 'laws.FnCubeTricks', WHERE WHAT IT READS IS OF BULK AT MOST 1048576: true; the input reads as it did. -/
def fnCubeTricksUptoRow : OpenClaim := { program := "ytaiilopfdjbceaa", sum := "f5a3ad9a0154d86c019c647dfb0c8dcb47ffc35d0c7c0a4800ad1512b28ec313", func := "loop.example/underveil/laws.FnCubeTricks", spec := "fnCubeTricks", unfollowed := true, recurses := true, apart := false, narrowed := true }
def FnCubeTricksUptoSaid : Prop := fnCubeTricksUptoRow.holds Try.pinned (OpenSpec.upto fnCubeTricksSpec)

/-- 'laws.FnProofGood', WHERE WHAT IT READS IS OF BULK AT MOST 1048576: true; the input reads as it did. -/
def fnProofGoodUptoRow : OpenClaim := { program := "ytaiilopfdjbceaa", sum := "f5a3ad9a0154d86c019c647dfb0c8dcb47ffc35d0c7c0a4800ad1512b28ec313", func := "loop.example/underveil/laws.FnProofGood", spec := "fnProofGood", apart := false, narrowed := true }
def FnProofGoodUptoSaid : Prop := fnProofGoodUptoRow.holds Try.pinned (OpenSpec.upto fnProofGoodSpec)

/-- 'laws.FnProofSecret', WHERE WHAT IT READS IS OF BULK AT MOST 1048576: true; the input reads as it did. -/
def fnProofSecretUptoRow : OpenClaim := { program := "ytaiilopfdjbceaa", sum := "f5a3ad9a0154d86c019c647dfb0c8dcb47ffc35d0c7c0a4800ad1512b28ec313", func := "loop.example/underveil/laws.FnProofSecret", spec := "fnProofSecret", apart := false, narrowed := true }
def FnProofSecretUptoSaid : Prop := fnProofSecretUptoRow.holds Try.pinned (OpenSpec.upto fnProofSecretSpec)

end Rows
end Go.Proofs.Ytaiilopfdjbceaa

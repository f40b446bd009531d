/-
  No cell of these rows narrows 'for every input' (looked for: loops, veiled, ifaces, maps, wideKeys, modest, calm, conditions, laid).
  DERIVED. THE GIVEN ROWS OF THIS SEAT. 6 by the template 'for every input the law returns true; each argument reads behind the call as it read before'; 0 by the template 'total and deterministic' (their statements: YtpdkkfbnfjfmhaaTotals.lean).
  GIVEN WITH THE SEED: the statements are not yours to turn. If you find one false, say at which input.
  Laid BY PROGRAM, IN A SANDBOX (cutbox-rows.mjs): the forced cells as the released guide's own fill.sh prints them over the translation 1fefc70ece713e81… (all of the seat's roots in one cut). By AI agents, Wed Nov 11 2026. No macro, syntax, notation, axiom, sorry.
-/
import Derived.Test.YtpdkkfbnfjfmhaaChecked
import GoSem.Claim
import GoSem.ClaimJoined
import GoSem.ClaimMapViews
import Derived.JoinedTies
import Derived.KernelRfl
namespace Go.Proofs.Ytpdkkfbnfjfmhaa
/- THE CELL 'sum', in the pinned program and in every row, IS THE sha256 OF THE DUMP (.gsa) THAT YtpdkkfbnfjfmhaaProg.lean LOADS. Nothing in Lean hashes anything: it is a label: what it is worth is what the hold of that sum in a sandbox is worth. -/
noncomputable def Try.pinned : Pinned := { name := "ytpdkkfbnfjfmhaa", sum := "1fefc70ece713e81041299152447f941f5041707ca056070e1f8562dc913d841", checked := Try.checked }
namespace Rows
def none {H : Type} : Left H := { results := [], args := [] }

/-- 'laws.FnExactPolyOk': WHATEVER THE INPUT: true; the input reads as it did. -/
def fnExactPolyOkSpec : ChangeSpec := { name := "fnExactPolyOk", fn := fun _ => fun
  | [d] => { results := [.lit (.bool true)], args := [d] }
  | _ => none }
def fnExactPolyOkRow : OpenClaim := { program := "ytpdkkfbnfjfmhaa", sum := "1fefc70ece713e81041299152447f941f5041707ca056070e1f8562dc913d841", func := "loop.example/underveil/laws.FnExactPolyOk", spec := "fnExactPolyOk", apart := false }
def FnExactPolyOkSaid : Prop := fnExactPolyOkRow.holds Try.pinned (OpenSpec.ofChange fnExactPolyOkSpec)

/-- ITS FALSE NEIGHBOUR: 'it returns false'. Refute it at one input. -/
def fnExactPolyOkWrong : ChangeSpec := { name := "fnExactPolyOk", fn := fun _ => fun
  | [d] => { results := [.lit (.bool false)], args := [d] }
  | _ => none }
def FnExactPolyOkWrongFalsely : Prop := fnExactPolyOkRow.holds Try.pinned (OpenSpec.ofChange fnExactPolyOkWrong)

/-- 'laws.FnExactPolyAt': WHATEVER THE INPUT: true; the input reads as it did. -/
def fnExactPolyAtSpec : ChangeSpec := { name := "fnExactPolyAt", fn := fun _ => fun
  | [d1, d2] => { results := [.lit (.bool true)], args := [d1, d2] }
  | _ => none }
def fnExactPolyAtRow : OpenClaim := { program := "ytpdkkfbnfjfmhaa", sum := "1fefc70ece713e81041299152447f941f5041707ca056070e1f8562dc913d841", func := "loop.example/underveil/laws.FnExactPolyAt", spec := "fnExactPolyAt", apart := false }
def FnExactPolyAtSaid : Prop := fnExactPolyAtRow.holds Try.pinned (OpenSpec.ofChange fnExactPolyAtSpec)

/-- ITS FALSE NEIGHBOUR: 'it returns false'. Refute it at one input. -/
def fnExactPolyAtWrong : ChangeSpec := { name := "fnExactPolyAt", fn := fun _ => fun
  | [d1, d2] => { results := [.lit (.bool false)], args := [d1, d2] }
  | _ => none }
def FnExactPolyAtWrongFalsely : Prop := fnExactPolyAtRow.holds Try.pinned (OpenSpec.ofChange fnExactPolyAtWrong)

/-- 'laws.FnExactPolyAdd': WHATEVER THE INPUT: true; the input reads as it did. -/
def fnExactPolyAddSpec : ChangeSpec := { name := "fnExactPolyAdd", fn := fun _ => fun
  | [d1, d2] => { results := [.lit (.bool true)], args := [d1, d2] }
  | _ => none }
def fnExactPolyAddRow : OpenClaim := { program := "ytpdkkfbnfjfmhaa", sum := "1fefc70ece713e81041299152447f941f5041707ca056070e1f8562dc913d841", func := "loop.example/underveil/laws.FnExactPolyAdd", spec := "fnExactPolyAdd", apart := false }
def FnExactPolyAddSaid : Prop := fnExactPolyAddRow.holds Try.pinned (OpenSpec.ofChange fnExactPolyAddSpec)

/-- ITS FALSE NEIGHBOUR: 'it returns false'. Refute it at one input. -/
def fnExactPolyAddWrong : ChangeSpec := { name := "fnExactPolyAdd", fn := fun _ => fun
  | [d1, d2] => { results := [.lit (.bool false)], args := [d1, d2] }
  | _ => none }
def FnExactPolyAddWrongFalsely : Prop := fnExactPolyAddRow.holds Try.pinned (OpenSpec.ofChange fnExactPolyAddWrong)

/-- 'laws.FnExactPolyMul': WHATEVER THE INPUT: true; the input reads as it did. -/
def fnExactPolyMulSpec : ChangeSpec := { name := "fnExactPolyMul", fn := fun _ => fun
  | [d1, d2] => { results := [.lit (.bool true)], args := [d1, d2] }
  | _ => none }
def fnExactPolyMulRow : OpenClaim := { program := "ytpdkkfbnfjfmhaa", sum := "1fefc70ece713e81041299152447f941f5041707ca056070e1f8562dc913d841", func := "loop.example/underveil/laws.FnExactPolyMul", spec := "fnExactPolyMul", apart := false }
def FnExactPolyMulSaid : Prop := fnExactPolyMulRow.holds Try.pinned (OpenSpec.ofChange fnExactPolyMulSpec)

/-- ITS FALSE NEIGHBOUR: 'it returns false'. Refute it at one input. -/
def fnExactPolyMulWrong : ChangeSpec := { name := "fnExactPolyMul", fn := fun _ => fun
  | [d1, d2] => { results := [.lit (.bool false)], args := [d1, d2] }
  | _ => none }
def FnExactPolyMulWrongFalsely : Prop := fnExactPolyMulRow.holds Try.pinned (OpenSpec.ofChange fnExactPolyMulWrong)

/-- 'laws.FnExactPolyDivide': WHATEVER THE INPUT: true; the input reads as it did. -/
def fnExactPolyDivideSpec : ChangeSpec := { name := "fnExactPolyDivide", fn := fun _ => fun
  | [d1, d2] => { results := [.lit (.bool true)], args := [d1, d2] }
  | _ => none }
def fnExactPolyDivideRow : OpenClaim := { program := "ytpdkkfbnfjfmhaa", sum := "1fefc70ece713e81041299152447f941f5041707ca056070e1f8562dc913d841", func := "loop.example/underveil/laws.FnExactPolyDivide", spec := "fnExactPolyDivide", apart := false }
def FnExactPolyDivideSaid : Prop := fnExactPolyDivideRow.holds Try.pinned (OpenSpec.ofChange fnExactPolyDivideSpec)

/-- ITS FALSE NEIGHBOUR: 'it returns false'. Refute it at one input. -/
def fnExactPolyDivideWrong : ChangeSpec := { name := "fnExactPolyDivide", fn := fun _ => fun
  | [d1, d2] => { results := [.lit (.bool false)], args := [d1, d2] }
  | _ => none }
def FnExactPolyDivideWrongFalsely : Prop := fnExactPolyDivideRow.holds Try.pinned (OpenSpec.ofChange fnExactPolyDivideWrong)

/-- 'laws.FnExactPolyThrough': WHATEVER THE INPUT: true; the input reads as it did. -/
def fnExactPolyThroughSpec : ChangeSpec := { name := "fnExactPolyThrough", fn := fun _ => fun
  | [d] => { results := [.lit (.bool true)], args := [d] }
  | _ => none }
def fnExactPolyThroughRow : OpenClaim := { program := "ytpdkkfbnfjfmhaa", sum := "1fefc70ece713e81041299152447f941f5041707ca056070e1f8562dc913d841", func := "loop.example/underveil/laws.FnExactPolyThrough", spec := "fnExactPolyThrough", apart := false }
def FnExactPolyThroughSaid : Prop := fnExactPolyThroughRow.holds Try.pinned (OpenSpec.ofChange fnExactPolyThroughSpec)

/-- ITS FALSE NEIGHBOUR: 'it returns false'. Refute it at one input. -/
def fnExactPolyThroughWrong : ChangeSpec := { name := "fnExactPolyThrough", fn := fun _ => fun
  | [d] => { results := [.lit (.bool false)], args := [d] }
  | _ => none }
def FnExactPolyThroughWrongFalsely : Prop := fnExactPolyThroughRow.holds Try.pinned (OpenSpec.ofChange fnExactPolyThroughWrong)

/- THE SECOND FORM. 'bulk': how many values and letters a reading holds, each counted each time it is reached (what is shared counts as often as it is met; a slice's spare places count too). A statement '..UptoSaid' is the law's where the arguments, and the package variables that the reading takes, are together of bulk at most 1048576: NARROWER than '..Said'. Prove '..Said' where nothing that the law and all that it calls make is longer than what came in: it says more and counts as full. Else prove '..UptoSaid'. A law counts once. -/
mutual
def uptoBulk {H : Type} : DataW H → Nat
  | .lit (.string bytes) => bytes.length + 1
  | .lit _ => 1
  | .nil => 1
  | .ptr d => uptoBulk d + 1
  | .slice elems spare => uptoBulkAll elems + uptoBulkAll spare + 1
  | .agg parts => uptoBulkAll parts + 1
  | .iface _ d => uptoBulk d + 1
  | .map entries => uptoBulkEntries entries + 1
  | .held _ => 1
def uptoBulkAll {H : Type} : List (DataW H) → Nat
  | [] => 0
  | d :: r => uptoBulk d + uptoBulkAll r
def uptoBulkEntries {H : Type} : List (Lit × DataW H) → Nat
  | [] => 0
  | x :: r => uptoBulkEntry x + uptoBulkEntries r
def uptoBulkEntry {H : Type} : Lit × DataW H → Nat
  | (.string bytes, d) => bytes.length + uptoBulk d + 1
  | (_, d) => uptoBulk d + 1
 end
def uptoSmall : (H : Type) → List (DataW H) → Bool := fun _ ds => decide (uptoBulkAll ds ≤ 1048576)
def OpenSpec.upto (s : _root_.Go.ChangeSpec) : _root_.Go.OpenSpec := { _root_.Go.OpenSpec.ofChange s with cond := some uptoSmall }

/-- 'laws.FnExactPolyOk', WHERE WHAT IT READS IS OF BULK AT MOST 1048576: true; the input reads as it did. -/
def fnExactPolyOkUptoRow : OpenClaim := { program := "ytpdkkfbnfjfmhaa", sum := "1fefc70ece713e81041299152447f941f5041707ca056070e1f8562dc913d841", func := "loop.example/underveil/laws.FnExactPolyOk", spec := "fnExactPolyOk", apart := false, narrowed := true }
def FnExactPolyOkUptoSaid : Prop := fnExactPolyOkUptoRow.holds Try.pinned (OpenSpec.upto fnExactPolyOkSpec)

/-- 'laws.FnExactPolyAt', WHERE WHAT IT READS IS OF BULK AT MOST 1048576: true; the input reads as it did. -/
def fnExactPolyAtUptoRow : OpenClaim := { program := "ytpdkkfbnfjfmhaa", sum := "1fefc70ece713e81041299152447f941f5041707ca056070e1f8562dc913d841", func := "loop.example/underveil/laws.FnExactPolyAt", spec := "fnExactPolyAt", apart := false, narrowed := true }
def FnExactPolyAtUptoSaid : Prop := fnExactPolyAtUptoRow.holds Try.pinned (OpenSpec.upto fnExactPolyAtSpec)

/-- 'laws.FnExactPolyAdd', WHERE WHAT IT READS IS OF BULK AT MOST 1048576: true; the input reads as it did. -/
def fnExactPolyAddUptoRow : OpenClaim := { program := "ytpdkkfbnfjfmhaa", sum := "1fefc70ece713e81041299152447f941f5041707ca056070e1f8562dc913d841", func := "loop.example/underveil/laws.FnExactPolyAdd", spec := "fnExactPolyAdd", apart := false, narrowed := true }
def FnExactPolyAddUptoSaid : Prop := fnExactPolyAddUptoRow.holds Try.pinned (OpenSpec.upto fnExactPolyAddSpec)

/-- 'laws.FnExactPolyMul', WHERE WHAT IT READS IS OF BULK AT MOST 1048576: true; the input reads as it did. -/
def fnExactPolyMulUptoRow : OpenClaim := { program := "ytpdkkfbnfjfmhaa", sum := "1fefc70ece713e81041299152447f941f5041707ca056070e1f8562dc913d841", func := "loop.example/underveil/laws.FnExactPolyMul", spec := "fnExactPolyMul", apart := false, narrowed := true }
def FnExactPolyMulUptoSaid : Prop := fnExactPolyMulUptoRow.holds Try.pinned (OpenSpec.upto fnExactPolyMulSpec)

/-- 'laws.FnExactPolyDivide', WHERE WHAT IT READS IS OF BULK AT MOST 1048576: true; the input reads as it did. -/
def fnExactPolyDivideUptoRow : OpenClaim := { program := "ytpdkkfbnfjfmhaa", sum := "1fefc70ece713e81041299152447f941f5041707ca056070e1f8562dc913d841", func := "loop.example/underveil/laws.FnExactPolyDivide", spec := "fnExactPolyDivide", apart := false, narrowed := true }
def FnExactPolyDivideUptoSaid : Prop := fnExactPolyDivideUptoRow.holds Try.pinned (OpenSpec.upto fnExactPolyDivideSpec)

/-- 'laws.FnExactPolyThrough', WHERE WHAT IT READS IS OF BULK AT MOST 1048576: true; the input reads as it did. -/
def fnExactPolyThroughUptoRow : OpenClaim := { program := "ytpdkkfbnfjfmhaa", sum := "1fefc70ece713e81041299152447f941f5041707ca056070e1f8562dc913d841", func := "loop.example/underveil/laws.FnExactPolyThrough", spec := "fnExactPolyThrough", apart := false, narrowed := true }
def FnExactPolyThroughUptoSaid : Prop := fnExactPolyThroughUptoRow.holds Try.pinned (OpenSpec.upto fnExactPolyThroughSpec)

end Rows
end Go.Proofs.Ytpdkkfbnfjfmhaa

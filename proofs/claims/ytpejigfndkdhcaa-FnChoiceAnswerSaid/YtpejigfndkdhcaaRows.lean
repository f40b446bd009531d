/-
  No cell of these rows narrows 'for every input' (looked for: loops, veiled, ifaces, maps, wideKeys, modest, calm, conditions, laid).
  DERIVED. THE GIVEN ROWS OF THIS SEAT. 8 by the template 'for every input the law returns true; each argument reads behind the call as it read before'; 0 by the template 'total and deterministic' (their statements: YtpejigfndkdhcaaTotals.lean).
  GIVEN WITH THE SEED: the statements are not yours to turn. If you find one false, say at which input.
  Laid BY PROGRAM, IN A SANDBOX (cutbox-rows.mjs): the forced cells as the released guide's own fill.sh prints them over the translation 7b879242b70203d1… (all of the seat's roots in one cut). By AI agents, Wed Nov 11 2026. No macro, syntax, notation, axiom, sorry.
-/
import Derived.Test.YtpejigfndkdhcaaChecked
import GoSem.Claim
import GoSem.ClaimJoined
import GoSem.ClaimMapViews
import Derived.JoinedTies
import Derived.KernelRfl
namespace Go.Proofs.Ytpejigfndkdhcaa
/- THE CELL 'sum', in the pinned program and in every row, IS THE sha256 OF THE DUMP (.gsa) THAT YtpejigfndkdhcaaProg.lean LOADS. Nothing in Lean hashes anything: it is a label: what it is worth is what the hold of that sum in a sandbox is worth. -/
noncomputable def Try.pinned : Pinned := { name := "ytpejigfndkdhcaa", sum := "7b879242b70203d1dd6b66c9a781586863ec676d71554e8500083d4ad06cdcad", checked := Try.checked }
namespace Rows
def none {H : Type} : Left H := { results := [], args := [] }

/-- 'laws.FnExactMarkedAdd': WHATEVER THE INPUT: true; the input reads as it did. -/
def fnExactMarkedAddSpec : ChangeSpec := { name := "fnExactMarkedAdd", fn := fun _ => fun
  | [d1, d2] => { results := [.lit (.bool true)], args := [d1, d2] }
  | _ => none }
def fnExactMarkedAddRow : OpenClaim := { program := "ytpejigfndkdhcaa", sum := "7b879242b70203d1dd6b66c9a781586863ec676d71554e8500083d4ad06cdcad", func := "loop.example/underveil/laws.FnExactMarkedAdd", spec := "fnExactMarkedAdd", apart := false }
def FnExactMarkedAddSaid : Prop := fnExactMarkedAddRow.holds Try.pinned (OpenSpec.ofChange fnExactMarkedAddSpec)

/-- ITS FALSE NEIGHBOUR: 'it returns false'. Refute it at one input. -/
def fnExactMarkedAddWrong : ChangeSpec := { name := "fnExactMarkedAdd", fn := fun _ => fun
  | [d1, d2] => { results := [.lit (.bool false)], args := [d1, d2] }
  | _ => none }
def FnExactMarkedAddWrongFalsely : Prop := fnExactMarkedAddRow.holds Try.pinned (OpenSpec.ofChange fnExactMarkedAddWrong)

/-- 'laws.FnExactMarkedProduct': WHATEVER THE INPUT: true; the input reads as it did. -/
def fnExactMarkedProductSpec : ChangeSpec := { name := "fnExactMarkedProduct", fn := fun _ => fun
  | [d1, d2, d3, d4, d5, d6] => { results := [.lit (.bool true)], args := [d1, d2, d3, d4, d5, d6] }
  | _ => none }
def fnExactMarkedProductRow : OpenClaim := { program := "ytpejigfndkdhcaa", sum := "7b879242b70203d1dd6b66c9a781586863ec676d71554e8500083d4ad06cdcad", func := "loop.example/underveil/laws.FnExactMarkedProduct", spec := "fnExactMarkedProduct", apart := false }
def FnExactMarkedProductSaid : Prop := fnExactMarkedProductRow.holds Try.pinned (OpenSpec.ofChange fnExactMarkedProductSpec)

/-- ITS FALSE NEIGHBOUR: 'it returns false'. Refute it at one input. -/
def fnExactMarkedProductWrong : ChangeSpec := { name := "fnExactMarkedProduct", fn := fun _ => fun
  | [d1, d2, d3, d4, d5, d6] => { results := [.lit (.bool false)], args := [d1, d2, d3, d4, d5, d6] }
  | _ => none }
def FnExactMarkedProductWrongFalsely : Prop := fnExactMarkedProductRow.holds Try.pinned (OpenSpec.ofChange fnExactMarkedProductWrong)

/-- 'laws.FnMarkedMake': WHATEVER THE INPUT: true; the input reads as it did. -/
def fnMarkedMakeSpec : ChangeSpec := { name := "fnMarkedMake", fn := fun _ => fun
  | [d] => { results := [.lit (.bool true)], args := [d] }
  | _ => none }
def fnMarkedMakeRow : OpenClaim := { program := "ytpejigfndkdhcaa", sum := "7b879242b70203d1dd6b66c9a781586863ec676d71554e8500083d4ad06cdcad", func := "loop.example/underveil/laws.FnMarkedMake", spec := "fnMarkedMake", apart := false }
def FnMarkedMakeSaid : Prop := fnMarkedMakeRow.holds Try.pinned (OpenSpec.ofChange fnMarkedMakeSpec)

/-- ITS FALSE NEIGHBOUR: 'it returns false'. Refute it at one input. -/
def fnMarkedMakeWrong : ChangeSpec := { name := "fnMarkedMake", fn := fun _ => fun
  | [d] => { results := [.lit (.bool false)], args := [d] }
  | _ => none }
def FnMarkedMakeWrongFalsely : Prop := fnMarkedMakeRow.holds Try.pinned (OpenSpec.ofChange fnMarkedMakeWrong)

/-- 'laws.FnMarkedCheck': WHATEVER THE INPUT: true; the input reads as it did. -/
def fnMarkedCheckSpec : ChangeSpec := { name := "fnMarkedCheck", fn := fun _ => fun
  | [d] => { results := [.lit (.bool true)], args := [d] }
  | _ => none }
def fnMarkedCheckRow : OpenClaim := { program := "ytpejigfndkdhcaa", sum := "7b879242b70203d1dd6b66c9a781586863ec676d71554e8500083d4ad06cdcad", func := "loop.example/underveil/laws.FnMarkedCheck", spec := "fnMarkedCheck", apart := false }
def FnMarkedCheckSaid : Prop := fnMarkedCheckRow.holds Try.pinned (OpenSpec.ofChange fnMarkedCheckSpec)

/-- ITS FALSE NEIGHBOUR: 'it returns false'. Refute it at one input. -/
def fnMarkedCheckWrong : ChangeSpec := { name := "fnMarkedCheck", fn := fun _ => fun
  | [d] => { results := [.lit (.bool false)], args := [d] }
  | _ => none }
def FnMarkedCheckWrongFalsely : Prop := fnMarkedCheckRow.holds Try.pinned (OpenSpec.ofChange fnMarkedCheckWrong)

/-- 'laws.FnMarkedShift': WHATEVER THE INPUT: true; the input reads as it did. -/
def fnMarkedShiftSpec : ChangeSpec := { name := "fnMarkedShift", fn := fun _ => fun
  | [d] => { results := [.lit (.bool true)], args := [d] }
  | _ => none }
def fnMarkedShiftRow : OpenClaim := { program := "ytpejigfndkdhcaa", sum := "7b879242b70203d1dd6b66c9a781586863ec676d71554e8500083d4ad06cdcad", func := "loop.example/underveil/laws.FnMarkedShift", spec := "fnMarkedShift", apart := false }
def FnMarkedShiftSaid : Prop := fnMarkedShiftRow.holds Try.pinned (OpenSpec.ofChange fnMarkedShiftSpec)

/-- ITS FALSE NEIGHBOUR: 'it returns false'. Refute it at one input. -/
def fnMarkedShiftWrong : ChangeSpec := { name := "fnMarkedShift", fn := fun _ => fun
  | [d] => { results := [.lit (.bool false)], args := [d] }
  | _ => none }
def FnMarkedShiftWrongFalsely : Prop := fnMarkedShiftRow.holds Try.pinned (OpenSpec.ofChange fnMarkedShiftWrong)

/-- 'laws.FnChoiceAnswer': WHATEVER THE INPUT: true; the input reads as it did. -/
def fnChoiceAnswerSpec : ChangeSpec := { name := "fnChoiceAnswer", fn := fun _ => fun
  | [d] => { results := [.lit (.bool true)], args := [d] }
  | _ => none }
def fnChoiceAnswerRow : OpenClaim := { program := "ytpejigfndkdhcaa", sum := "7b879242b70203d1dd6b66c9a781586863ec676d71554e8500083d4ad06cdcad", func := "loop.example/underveil/laws.FnChoiceAnswer", spec := "fnChoiceAnswer", unfollowed := true, recurses := true, apart := false }
def FnChoiceAnswerSaid : Prop := fnChoiceAnswerRow.holds Try.pinned (OpenSpec.ofChange fnChoiceAnswerSpec)

/-- ITS FALSE NEIGHBOUR: 'it returns false'. Refute it at one input. -/
def fnChoiceAnswerWrong : ChangeSpec := { name := "fnChoiceAnswer", fn := fun _ => fun
  | [d] => { results := [.lit (.bool false)], args := [d] }
  | _ => none }
def FnChoiceAnswerWrongFalsely : Prop := fnChoiceAnswerRow.holds Try.pinned (OpenSpec.ofChange fnChoiceAnswerWrong)

/-- 'laws.FnChoiceWhole': WHATEVER THE INPUT: true; the input reads as it did. -/
def fnChoiceWholeSpec : ChangeSpec := { name := "fnChoiceWhole", fn := fun _ => fun
  | [d] => { results := [.lit (.bool true)], args := [d] }
  | _ => none }
def fnChoiceWholeRow : OpenClaim := { program := "ytpejigfndkdhcaa", sum := "7b879242b70203d1dd6b66c9a781586863ec676d71554e8500083d4ad06cdcad", func := "loop.example/underveil/laws.FnChoiceWhole", spec := "fnChoiceWhole", unfollowed := true, recurses := true, apart := false }
def FnChoiceWholeSaid : Prop := fnChoiceWholeRow.holds Try.pinned (OpenSpec.ofChange fnChoiceWholeSpec)

/-- ITS FALSE NEIGHBOUR: 'it returns false'. Refute it at one input. -/
def fnChoiceWholeWrong : ChangeSpec := { name := "fnChoiceWhole", fn := fun _ => fun
  | [d] => { results := [.lit (.bool false)], args := [d] }
  | _ => none }
def FnChoiceWholeWrongFalsely : Prop := fnChoiceWholeRow.holds Try.pinned (OpenSpec.ofChange fnChoiceWholeWrong)

/-- 'laws.FnExactCircuitJoin': WHATEVER THE INPUT: true; the input reads as it did. -/
def fnExactCircuitJoinSpec : ChangeSpec := { name := "fnExactCircuitJoin", fn := fun _ => fun
  | [d1, d2] => { results := [.lit (.bool true)], args := [d1, d2] }
  | _ => none }
def fnExactCircuitJoinRow : OpenClaim := { program := "ytpejigfndkdhcaa", sum := "7b879242b70203d1dd6b66c9a781586863ec676d71554e8500083d4ad06cdcad", func := "loop.example/underveil/laws.FnExactCircuitJoin", spec := "fnExactCircuitJoin", unfollowed := true, recurses := true, apart := false }
def FnExactCircuitJoinSaid : Prop := fnExactCircuitJoinRow.holds Try.pinned (OpenSpec.ofChange fnExactCircuitJoinSpec)

/-- ITS FALSE NEIGHBOUR: 'it returns false'. Refute it at one input. -/
def fnExactCircuitJoinWrong : ChangeSpec := { name := "fnExactCircuitJoin", fn := fun _ => fun
  | [d1, d2] => { results := [.lit (.bool false)], args := [d1, d2] }
  | _ => none }
def FnExactCircuitJoinWrongFalsely : Prop := fnExactCircuitJoinRow.holds Try.pinned (OpenSpec.ofChange fnExactCircuitJoinWrong)

/- THE SECOND FORM. 'bulk': how many values and letters a reading holds, each counted each time it is reached (what is shared counts as often as it is met; a slice's spare places count too). A statement '..UptoSaid' is the law's where the arguments, and the package variables that the reading takes, are together of bulk at most 1048576: NARROWER than '..Said'. Prove '..Said' where nothing that the law and all that it calls make is longer than what came in: it says more and counts as full. Else prove '..UptoSaid'. A law counts once. -/
mutual
def uptoBulk {H : Type} : DataW H → Nat
  | .lit (.string bytes) => bytes.length + 1
  | .lit _ => 1
  | .nil => 1
  | .ptr d => uptoBulk d + 1
  | .slice elems spare => uptoBulkAll elems + uptoBulkAll spare + 1
  | .agg parts => uptoBulkAll parts + 1
  | .iface _ d => uptoBulk d + 1
  | .map entries => uptoBulkEntries entries + 1
  | .held _ => 1
def uptoBulkAll {H : Type} : List (DataW H) → Nat
  | [] => 0
  | d :: r => uptoBulk d + uptoBulkAll r
def uptoBulkEntries {H : Type} : List (Lit × DataW H) → Nat
  | [] => 0
  | x :: r => uptoBulkEntry x + uptoBulkEntries r
def uptoBulkEntry {H : Type} : Lit × DataW H → Nat
  | (.string bytes, d) => bytes.length + uptoBulk d + 1
  | (_, d) => uptoBulk d + 1
 end
def uptoSmall : (H : Type) → List (DataW H) → Bool := fun _ ds => decide (uptoBulkAll ds ≤ 1048576)
def OpenSpec.upto (s : _root_.Go.ChangeSpec) : _root_.Go.OpenSpec := { _root_.Go.OpenSpec.ofChange s with cond := some uptoSmall }

/-- 'laws.FnExactMarkedAdd', WHERE WHAT IT READS IS OF BULK AT MOST 1048576: true; the input reads as it did. -/
def fnExactMarkedAddUptoRow : OpenClaim := { program := "ytpejigfndkdhcaa", sum := "7b879242b70203d1dd6b66c9a781586863ec676d71554e8500083d4ad06cdcad", func := "loop.example/underveil/laws.FnExactMarkedAdd", spec := "fnExactMarkedAdd", apart := false, narrowed := true }
def FnExactMarkedAddUptoSaid : Prop := fnExactMarkedAddUptoRow.holds Try.pinned (OpenSpec.upto fnExactMarkedAddSpec)

/-- 'laws.FnExactMarkedProduct', WHERE WHAT IT READS IS OF BULK AT MOST 1048576: true; the input reads as it did. -/
def fnExactMarkedProductUptoRow : OpenClaim := { program := "ytpejigfndkdhcaa", sum := "7b879242b70203d1dd6b66c9a781586863ec676d71554e8500083d4ad06cdcad", func := "loop.example/underveil/laws.FnExactMarkedProduct", spec := "fnExactMarkedProduct", apart := false, narrowed := true }
def FnExactMarkedProductUptoSaid : Prop := fnExactMarkedProductUptoRow.holds Try.pinned (OpenSpec.upto fnExactMarkedProductSpec)

/-- 'laws.FnMarkedMake', WHERE WHAT IT READS IS OF BULK AT MOST 1048576: true; the input reads as it did. -/
def fnMarkedMakeUptoRow : OpenClaim := { program := "ytpejigfndkdhcaa", sum := "7b879242b70203d1dd6b66c9a781586863ec676d71554e8500083d4ad06cdcad", func := "loop.example/underveil/laws.FnMarkedMake", spec := "fnMarkedMake", apart := false, narrowed := true }
def FnMarkedMakeUptoSaid : Prop := fnMarkedMakeUptoRow.holds Try.pinned (OpenSpec.upto fnMarkedMakeSpec)

/-- 'laws.FnMarkedCheck', WHERE WHAT IT READS IS OF BULK AT MOST 1048576: true; the input reads as it did. -/
def fnMarkedCheckUptoRow : OpenClaim := { program := "ytpejigfndkdhcaa", sum := "7b879242b70203d1dd6b66c9a781586863ec676d71554e8500083d4ad06cdcad", func := "loop.example/underveil/laws.FnMarkedCheck", spec := "fnMarkedCheck", apart := false, narrowed := true }
def FnMarkedCheckUptoSaid : Prop := fnMarkedCheckUptoRow.holds Try.pinned (OpenSpec.upto fnMarkedCheckSpec)

/-- 'laws.FnMarkedShift', WHERE WHAT IT READS IS OF BULK AT MOST 1048576: true; the input reads as it did. -/
def fnMarkedShiftUptoRow : OpenClaim := { program := "ytpejigfndkdhcaa", sum := "7b879242b70203d1dd6b66c9a781586863ec676d71554e8500083d4ad06cdcad", func := "loop.example/underveil/laws.FnMarkedShift", spec := "fnMarkedShift", apart := false, narrowed := true }
def FnMarkedShiftUptoSaid : Prop := fnMarkedShiftUptoRow.holds Try.pinned (OpenSpec.upto fnMarkedShiftSpec)

/-- 'laws.FnChoiceAnswer', WHERE WHAT IT READS IS OF BULK AT MOST 1048576: true; the input reads as it did. -/
def fnChoiceAnswerUptoRow : OpenClaim := { program := "ytpejigfndkdhcaa", sum := "7b879242b70203d1dd6b66c9a781586863ec676d71554e8500083d4ad06cdcad", func := "loop.example/underveil/laws.FnChoiceAnswer", spec := "fnChoiceAnswer", unfollowed := true, recurses := true, apart := false, narrowed := true }
def FnChoiceAnswerUptoSaid : Prop := fnChoiceAnswerUptoRow.holds Try.pinned (OpenSpec.upto fnChoiceAnswerSpec)

/-- 'laws.FnChoiceWhole', WHERE WHAT IT READS IS OF BULK AT MOST 1048576: true; the input reads as it did. -/
def fnChoiceWholeUptoRow : OpenClaim := { program := "ytpejigfndkdhcaa", sum := "7b879242b70203d1dd6b66c9a781586863ec676d71554e8500083d4ad06cdcad", func := "loop.example/underveil/laws.FnChoiceWhole", spec := "fnChoiceWhole", unfollowed := true, recurses := true, apart := false, narrowed := true }
def FnChoiceWholeUptoSaid : Prop := fnChoiceWholeUptoRow.holds Try.pinned (OpenSpec.upto fnChoiceWholeSpec)

/-- 'laws.FnExactCircuitJoin', WHERE WHAT IT READS IS OF BULK AT MOST 1048576: true; the input reads as it did. -/
def fnExactCircuitJoinUptoRow : OpenClaim := { program := "ytpejigfndkdhcaa", sum := "7b879242b70203d1dd6b66c9a781586863ec676d71554e8500083d4ad06cdcad", func := "loop.example/underveil/laws.FnExactCircuitJoin", spec := "fnExactCircuitJoin", unfollowed := true, recurses := true, apart := false, narrowed := true }
def FnExactCircuitJoinUptoSaid : Prop := fnExactCircuitJoinUptoRow.holds Try.pinned (OpenSpec.upto fnExactCircuitJoinSpec)

end Rows
end Go.Proofs.Ytpejigfndkdhcaa

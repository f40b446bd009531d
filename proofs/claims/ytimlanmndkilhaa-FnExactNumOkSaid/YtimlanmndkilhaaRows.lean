/-
  No cell of these rows narrows 'for every input' (looked for: loops, veiled, ifaces, maps, wideKeys, modest, calm, conditions, laid).
  DERIVED. THE GIVEN ROWS OF THIS SEAT. 9 by the template 'for every input the law returns true; each argument reads behind the call as it read before'; 0 by the template 'total and deterministic' (their statements: YtimlanmndkilhaaTotals.lean).
  GIVEN WITH THE SEED: the statements are not yours to turn. If you find one false, say at which input.
  Laid BY PROGRAM, IN A SANDBOX (cutbox-rows.mjs): the forced cells as the released guide's own fill.sh prints them over the translation 7d9c13ba5b5648b6… (all of the seat's roots in one cut). By AI agents, Wed Nov 11 2026. No macro, syntax, notation, axiom, sorry.
-/
import Derived.Test.YtimlanmndkilhaaChecked
import GoSem.Claim
import GoSem.ClaimJoined
import GoSem.ClaimMapViews
import Derived.JoinedTies
import Derived.KernelRfl
namespace Go.Proofs.Ytimlanmndkilhaa
/- THE CELL 'sum', in the pinned program and in every row, IS THE sha256 OF THE DUMP (.gsa) THAT YtimlanmndkilhaaProg.lean LOADS. Nothing in Lean hashes anything: it is a label: what it is worth is what the hold of that sum in a sandbox is worth. -/
noncomputable def Try.pinned : Pinned := { name := "ytimlanmndkilhaa", sum := "7d9c13ba5b5648b6ee37c3c0304eb6810202e78c4589ab3436e617696d916cb1", checked := Try.checked }
namespace Rows
def none {H : Type} : Left H := { results := [], args := [] }

/-- 'laws.FnExactNumOk': WHATEVER THE INPUT: true; the input reads as it did. -/
def fnExactNumOkSpec : ChangeSpec := { name := "fnExactNumOk", fn := fun _ => fun
  | [d] => { results := [.lit (.bool true)], args := [d] }
  | _ => none }
def fnExactNumOkRow : OpenClaim := { program := "ytimlanmndkilhaa", sum := "7d9c13ba5b5648b6ee37c3c0304eb6810202e78c4589ab3436e617696d916cb1", func := "loop.example/underveil/laws.FnExactNumOk", spec := "fnExactNumOk", apart := false }
def FnExactNumOkSaid : Prop := fnExactNumOkRow.holds Try.pinned (OpenSpec.ofChange fnExactNumOkSpec)

/-- ITS FALSE NEIGHBOUR: 'it returns false'. Refute it at one input. -/
def fnExactNumOkWrong : ChangeSpec := { name := "fnExactNumOk", fn := fun _ => fun
  | [d] => { results := [.lit (.bool false)], args := [d] }
  | _ => none }
def FnExactNumOkWrongFalsely : Prop := fnExactNumOkRow.holds Try.pinned (OpenSpec.ofChange fnExactNumOkWrong)

/-- 'laws.FnExactNumAdd': WHATEVER THE INPUT: true; the input reads as it did. -/
def fnExactNumAddSpec : ChangeSpec := { name := "fnExactNumAdd", fn := fun _ => fun
  | [d1, d2] => { results := [.lit (.bool true)], args := [d1, d2] }
  | _ => none }
def fnExactNumAddRow : OpenClaim := { program := "ytimlanmndkilhaa", sum := "7d9c13ba5b5648b6ee37c3c0304eb6810202e78c4589ab3436e617696d916cb1", func := "loop.example/underveil/laws.FnExactNumAdd", spec := "fnExactNumAdd", apart := false }
def FnExactNumAddSaid : Prop := fnExactNumAddRow.holds Try.pinned (OpenSpec.ofChange fnExactNumAddSpec)

/-- ITS FALSE NEIGHBOUR: 'it returns false'. Refute it at one input. -/
def fnExactNumAddWrong : ChangeSpec := { name := "fnExactNumAdd", fn := fun _ => fun
  | [d1, d2] => { results := [.lit (.bool false)], args := [d1, d2] }
  | _ => none }
def FnExactNumAddWrongFalsely : Prop := fnExactNumAddRow.holds Try.pinned (OpenSpec.ofChange fnExactNumAddWrong)

/-- 'laws.FnExactNumSub': WHATEVER THE INPUT: true; the input reads as it did. -/
def fnExactNumSubSpec : ChangeSpec := { name := "fnExactNumSub", fn := fun _ => fun
  | [d1, d2] => { results := [.lit (.bool true)], args := [d1, d2] }
  | _ => none }
def fnExactNumSubRow : OpenClaim := { program := "ytimlanmndkilhaa", sum := "7d9c13ba5b5648b6ee37c3c0304eb6810202e78c4589ab3436e617696d916cb1", func := "loop.example/underveil/laws.FnExactNumSub", spec := "fnExactNumSub", apart := false }
def FnExactNumSubSaid : Prop := fnExactNumSubRow.holds Try.pinned (OpenSpec.ofChange fnExactNumSubSpec)

/-- ITS FALSE NEIGHBOUR: 'it returns false'. Refute it at one input. -/
def fnExactNumSubWrong : ChangeSpec := { name := "fnExactNumSub", fn := fun _ => fun
  | [d1, d2] => { results := [.lit (.bool false)], args := [d1, d2] }
  | _ => none }
def FnExactNumSubWrongFalsely : Prop := fnExactNumSubRow.holds Try.pinned (OpenSpec.ofChange fnExactNumSubWrong)

/-- 'laws.FnExactNumMul': WHATEVER THE INPUT: true; the input reads as it did. -/
def fnExactNumMulSpec : ChangeSpec := { name := "fnExactNumMul", fn := fun _ => fun
  | [d1, d2] => { results := [.lit (.bool true)], args := [d1, d2] }
  | _ => none }
def fnExactNumMulRow : OpenClaim := { program := "ytimlanmndkilhaa", sum := "7d9c13ba5b5648b6ee37c3c0304eb6810202e78c4589ab3436e617696d916cb1", func := "loop.example/underveil/laws.FnExactNumMul", spec := "fnExactNumMul", apart := false }
def FnExactNumMulSaid : Prop := fnExactNumMulRow.holds Try.pinned (OpenSpec.ofChange fnExactNumMulSpec)

/-- ITS FALSE NEIGHBOUR: 'it returns false'. Refute it at one input. -/
def fnExactNumMulWrong : ChangeSpec := { name := "fnExactNumMul", fn := fun _ => fun
  | [d1, d2] => { results := [.lit (.bool false)], args := [d1, d2] }
  | _ => none }
def FnExactNumMulWrongFalsely : Prop := fnExactNumMulRow.holds Try.pinned (OpenSpec.ofChange fnExactNumMulWrong)

/-- 'laws.FnExactNumInv': WHATEVER THE INPUT: true; the input reads as it did. -/
def fnExactNumInvSpec : ChangeSpec := { name := "fnExactNumInv", fn := fun _ => fun
  | [d] => { results := [.lit (.bool true)], args := [d] }
  | _ => none }
def fnExactNumInvRow : OpenClaim := { program := "ytimlanmndkilhaa", sum := "7d9c13ba5b5648b6ee37c3c0304eb6810202e78c4589ab3436e617696d916cb1", func := "loop.example/underveil/laws.FnExactNumInv", spec := "fnExactNumInv", apart := false }
def FnExactNumInvSaid : Prop := fnExactNumInvRow.holds Try.pinned (OpenSpec.ofChange fnExactNumInvSpec)

/-- ITS FALSE NEIGHBOUR: 'it returns false'. Refute it at one input. -/
def fnExactNumInvWrong : ChangeSpec := { name := "fnExactNumInv", fn := fun _ => fun
  | [d] => { results := [.lit (.bool false)], args := [d] }
  | _ => none }
def FnExactNumInvWrongFalsely : Prop := fnExactNumInvRow.holds Try.pinned (OpenSpec.ofChange fnExactNumInvWrong)

/-- 'laws.FnExactElementOk': WHATEVER THE INPUT: true; the input reads as it did. -/
def fnExactElementOkSpec : ChangeSpec := { name := "fnExactElementOk", fn := fun _ => fun
  | [d] => { results := [.lit (.bool true)], args := [d] }
  | _ => none }
def fnExactElementOkRow : OpenClaim := { program := "ytimlanmndkilhaa", sum := "7d9c13ba5b5648b6ee37c3c0304eb6810202e78c4589ab3436e617696d916cb1", func := "loop.example/underveil/laws.FnExactElementOk", spec := "fnExactElementOk", apart := false }
def FnExactElementOkSaid : Prop := fnExactElementOkRow.holds Try.pinned (OpenSpec.ofChange fnExactElementOkSpec)

/-- ITS FALSE NEIGHBOUR: 'it returns false'. Refute it at one input. -/
def fnExactElementOkWrong : ChangeSpec := { name := "fnExactElementOk", fn := fun _ => fun
  | [d] => { results := [.lit (.bool false)], args := [d] }
  | _ => none }
def FnExactElementOkWrongFalsely : Prop := fnExactElementOkRow.holds Try.pinned (OpenSpec.ofChange fnExactElementOkWrong)

/-- 'laws.FnExactElementMul': WHATEVER THE INPUT: true; the input reads as it did. -/
def fnExactElementMulSpec : ChangeSpec := { name := "fnExactElementMul", fn := fun _ => fun
  | [d1, d2] => { results := [.lit (.bool true)], args := [d1, d2] }
  | _ => none }
def fnExactElementMulRow : OpenClaim := { program := "ytimlanmndkilhaa", sum := "7d9c13ba5b5648b6ee37c3c0304eb6810202e78c4589ab3436e617696d916cb1", func := "loop.example/underveil/laws.FnExactElementMul", spec := "fnExactElementMul", apart := false }
def FnExactElementMulSaid : Prop := fnExactElementMulRow.holds Try.pinned (OpenSpec.ofChange fnExactElementMulSpec)

/-- ITS FALSE NEIGHBOUR: 'it returns false'. Refute it at one input. -/
def fnExactElementMulWrong : ChangeSpec := { name := "fnExactElementMul", fn := fun _ => fun
  | [d1, d2] => { results := [.lit (.bool false)], args := [d1, d2] }
  | _ => none }
def FnExactElementMulWrongFalsely : Prop := fnExactElementMulRow.holds Try.pinned (OpenSpec.ofChange fnExactElementMulWrong)

/-- 'laws.FnExactElementPow': WHATEVER THE INPUT: true; the input reads as it did. -/
def fnExactElementPowSpec : ChangeSpec := { name := "fnExactElementPow", fn := fun _ => fun
  | [d1, d2] => { results := [.lit (.bool true)], args := [d1, d2] }
  | _ => none }
def fnExactElementPowRow : OpenClaim := { program := "ytimlanmndkilhaa", sum := "7d9c13ba5b5648b6ee37c3c0304eb6810202e78c4589ab3436e617696d916cb1", func := "loop.example/underveil/laws.FnExactElementPow", spec := "fnExactElementPow", apart := false }
def FnExactElementPowSaid : Prop := fnExactElementPowRow.holds Try.pinned (OpenSpec.ofChange fnExactElementPowSpec)

/-- ITS FALSE NEIGHBOUR: 'it returns false'. Refute it at one input. -/
def fnExactElementPowWrong : ChangeSpec := { name := "fnExactElementPow", fn := fun _ => fun
  | [d1, d2] => { results := [.lit (.bool false)], args := [d1, d2] }
  | _ => none }
def FnExactElementPowWrongFalsely : Prop := fnExactElementPowRow.holds Try.pinned (OpenSpec.ofChange fnExactElementPowWrong)

/-- 'laws.FnExactElementLog': WHATEVER THE INPUT: true; the input reads as it did. -/
def fnExactElementLogSpec : ChangeSpec := { name := "fnExactElementLog", fn := fun _ => fun
  | [d] => { results := [.lit (.bool true)], args := [d] }
  | _ => none }
def fnExactElementLogRow : OpenClaim := { program := "ytimlanmndkilhaa", sum := "7d9c13ba5b5648b6ee37c3c0304eb6810202e78c4589ab3436e617696d916cb1", func := "loop.example/underveil/laws.FnExactElementLog", spec := "fnExactElementLog", apart := false }
def FnExactElementLogSaid : Prop := fnExactElementLogRow.holds Try.pinned (OpenSpec.ofChange fnExactElementLogSpec)

/-- ITS FALSE NEIGHBOUR: 'it returns false'. Refute it at one input. -/
def fnExactElementLogWrong : ChangeSpec := { name := "fnExactElementLog", fn := fun _ => fun
  | [d] => { results := [.lit (.bool false)], args := [d] }
  | _ => none }
def FnExactElementLogWrongFalsely : Prop := fnExactElementLogRow.holds Try.pinned (OpenSpec.ofChange fnExactElementLogWrong)

/- THE SECOND FORM. 'bulk': how many values and letters a reading holds, each counted each time it is reached (what is shared counts as often as it is met; a slice's spare places count too). A statement '..UptoSaid' is the law's where the arguments, and the package variables that the reading takes, are together of bulk at most 1048576: NARROWER than '..Said'. Prove '..Said' where nothing that the law and all that it calls make is longer than what came in: it says more and counts as full. Else prove '..UptoSaid'. A law counts once. -/
mutual
def uptoBulk {H : Type} : DataW H → Nat
  | .lit (.string bytes) => bytes.length + 1
  | .lit _ => 1
  | .nil => 1
  | .ptr d => uptoBulk d + 1
  | .slice elems spare => uptoBulkAll elems + uptoBulkAll spare + 1
  | .agg parts => uptoBulkAll parts + 1
  | .iface _ d => uptoBulk d + 1
  | .map entries => uptoBulkEntries entries + 1
  | .held _ => 1
def uptoBulkAll {H : Type} : List (DataW H) → Nat
  | [] => 0
  | d :: r => uptoBulk d + uptoBulkAll r
def uptoBulkEntries {H : Type} : List (Lit × DataW H) → Nat
  | [] => 0
  | x :: r => uptoBulkEntry x + uptoBulkEntries r
def uptoBulkEntry {H : Type} : Lit × DataW H → Nat
  | (.string bytes, d) => bytes.length + uptoBulk d + 1
  | (_, d) => uptoBulk d + 1
 end
def uptoSmall : (H : Type) → List (DataW H) → Bool := fun _ ds => decide (uptoBulkAll ds ≤ 1048576)
def OpenSpec.upto (s : _root_.Go.ChangeSpec) : _root_.Go.OpenSpec := { _root_.Go.OpenSpec.ofChange s with cond := some uptoSmall }

/-- 'laws.FnExactNumOk', WHERE WHAT IT READS IS OF BULK AT MOST 1048576: true; the input reads as it did. -/
def fnExactNumOkUptoRow : OpenClaim := { program := "ytimlanmndkilhaa", sum := "7d9c13ba5b5648b6ee37c3c0304eb6810202e78c4589ab3436e617696d916cb1", func := "loop.example/underveil/laws.FnExactNumOk", spec := "fnExactNumOk", apart := false, narrowed := true }
def FnExactNumOkUptoSaid : Prop := fnExactNumOkUptoRow.holds Try.pinned (OpenSpec.upto fnExactNumOkSpec)

/-- 'laws.FnExactNumAdd', WHERE WHAT IT READS IS OF BULK AT MOST 1048576: true; the input reads as it did. -/
def fnExactNumAddUptoRow : OpenClaim := { program := "ytimlanmndkilhaa", sum := "7d9c13ba5b5648b6ee37c3c0304eb6810202e78c4589ab3436e617696d916cb1", func := "loop.example/underveil/laws.FnExactNumAdd", spec := "fnExactNumAdd", apart := false, narrowed := true }
def FnExactNumAddUptoSaid : Prop := fnExactNumAddUptoRow.holds Try.pinned (OpenSpec.upto fnExactNumAddSpec)

/-- 'laws.FnExactNumSub', WHERE WHAT IT READS IS OF BULK AT MOST 1048576: true; the input reads as it did. -/
def fnExactNumSubUptoRow : OpenClaim := { program := "ytimlanmndkilhaa", sum := "7d9c13ba5b5648b6ee37c3c0304eb6810202e78c4589ab3436e617696d916cb1", func := "loop.example/underveil/laws.FnExactNumSub", spec := "fnExactNumSub", apart := false, narrowed := true }
def FnExactNumSubUptoSaid : Prop := fnExactNumSubUptoRow.holds Try.pinned (OpenSpec.upto fnExactNumSubSpec)

/-- 'laws.FnExactNumMul', WHERE WHAT IT READS IS OF BULK AT MOST 1048576: true; the input reads as it did. -/
def fnExactNumMulUptoRow : OpenClaim := { program := "ytimlanmndkilhaa", sum := "7d9c13ba5b5648b6ee37c3c0304eb6810202e78c4589ab3436e617696d916cb1", func := "loop.example/underveil/laws.FnExactNumMul", spec := "fnExactNumMul", apart := false, narrowed := true }
def FnExactNumMulUptoSaid : Prop := fnExactNumMulUptoRow.holds Try.pinned (OpenSpec.upto fnExactNumMulSpec)

/-- 'laws.FnExactNumInv', WHERE WHAT IT READS IS OF BULK AT MOST 1048576: true; the input reads as it did. -/
def fnExactNumInvUptoRow : OpenClaim := { program := "ytimlanmndkilhaa", sum := "7d9c13ba5b5648b6ee37c3c0304eb6810202e78c4589ab3436e617696d916cb1", func := "loop.example/underveil/laws.FnExactNumInv", spec := "fnExactNumInv", apart := false, narrowed := true }
def FnExactNumInvUptoSaid : Prop := fnExactNumInvUptoRow.holds Try.pinned (OpenSpec.upto fnExactNumInvSpec)

/-- 'laws.FnExactElementOk', WHERE WHAT IT READS IS OF BULK AT MOST 1048576: true; the input reads as it did. -/
def fnExactElementOkUptoRow : OpenClaim := { program := "ytimlanmndkilhaa", sum := "7d9c13ba5b5648b6ee37c3c0304eb6810202e78c4589ab3436e617696d916cb1", func := "loop.example/underveil/laws.FnExactElementOk", spec := "fnExactElementOk", apart := false, narrowed := true }
def FnExactElementOkUptoSaid : Prop := fnExactElementOkUptoRow.holds Try.pinned (OpenSpec.upto fnExactElementOkSpec)

/-- 'laws.FnExactElementMul', WHERE WHAT IT READS IS OF BULK AT MOST 1048576: true; the input reads as it did. -/
def fnExactElementMulUptoRow : OpenClaim := { program := "ytimlanmndkilhaa", sum := "7d9c13ba5b5648b6ee37c3c0304eb6810202e78c4589ab3436e617696d916cb1", func := "loop.example/underveil/laws.FnExactElementMul", spec := "fnExactElementMul", apart := false, narrowed := true }
def FnExactElementMulUptoSaid : Prop := fnExactElementMulUptoRow.holds Try.pinned (OpenSpec.upto fnExactElementMulSpec)

/-- 'laws.FnExactElementPow', WHERE WHAT IT READS IS OF BULK AT MOST 1048576: true; the input reads as it did. -/
def fnExactElementPowUptoRow : OpenClaim := { program := "ytimlanmndkilhaa", sum := "7d9c13ba5b5648b6ee37c3c0304eb6810202e78c4589ab3436e617696d916cb1", func := "loop.example/underveil/laws.FnExactElementPow", spec := "fnExactElementPow", apart := false, narrowed := true }
def FnExactElementPowUptoSaid : Prop := fnExactElementPowUptoRow.holds Try.pinned (OpenSpec.upto fnExactElementPowSpec)

/-- 'laws.FnExactElementLog', WHERE WHAT IT READS IS OF BULK AT MOST 1048576: true; the input reads as it did. -/
def fnExactElementLogUptoRow : OpenClaim := { program := "ytimlanmndkilhaa", sum := "7d9c13ba5b5648b6ee37c3c0304eb6810202e78c4589ab3436e617696d916cb1", func := "loop.example/underveil/laws.FnExactElementLog", spec := "fnExactElementLog", apart := false, narrowed := true }
def FnExactElementLogUptoSaid : Prop := fnExactElementLogUptoRow.holds Try.pinned (OpenSpec.upto fnExactElementLogSpec)

end Rows
end Go.Proofs.Ytimlanmndkilhaa

/-
  No cell of these rows narrows 'for every input' (looked for: loops, veiled, ifaces, maps, wideKeys, modest, calm, conditions, laid).
  DERIVED. THE GIVEN ROWS OF THIS SEAT. 8 by the template 'for every input the law returns true; each argument reads behind the call as it read before'; 0 by the template 'total and deterministic' (their statements: YtlajhgnlllelfaaTotals.lean).
  GIVEN WITH THE SEED: the statements are not yours to turn. If you find one false, say at which input.
  Laid BY PROGRAM, IN A SANDBOX (cutbox-rows.mjs): the forced cells as the released guide's own fill.sh prints them over the translation 9c66ba746b515dac… (all of the seat's roots in one cut). By AI agents, Wed Nov 11 2026. No macro, syntax, notation, axiom, sorry.
-/
import Derived.Test.YtlajhgnlllelfaaChecked
import GoSem.Claim
import GoSem.ClaimJoined
import GoSem.ClaimMapViews
import Derived.JoinedTies
import Derived.KernelRfl
namespace Go.Proofs.Ytlajhgnlllelfaa
/- THE CELL 'sum', in the pinned program and in every row, IS THE sha256 OF THE DUMP (.gsa) THAT YtlajhgnlllelfaaProg.lean LOADS. Nothing in Lean hashes anything: it is a label: what it is worth is what the hold of that sum in a sandbox is worth. -/
noncomputable def Try.pinned : Pinned := { name := "ytlajhgnlllelfaa", sum := "9c66ba746b515dac9155d182b38a5dbb4befca5fa1b7954b0ce1367ac56b69a3", checked := Try.checked }
namespace Rows
def none {H : Type} : Left H := { results := [], args := [] }

/-- 'laws.FnExactHiddenOk': WHATEVER THE INPUT: true; the input reads as it did. -/
def fnExactHiddenOkSpec : ChangeSpec := { name := "fnExactHiddenOk", fn := fun _ => fun
  | [d] => { results := [.lit (.bool true)], args := [d] }
  | _ => none }
def fnExactHiddenOkRow : OpenClaim := { program := "ytlajhgnlllelfaa", sum := "9c66ba746b515dac9155d182b38a5dbb4befca5fa1b7954b0ce1367ac56b69a3", func := "loop.example/underveil/laws.FnExactHiddenOk", spec := "fnExactHiddenOk", unfollowed := true, recurses := true, apart := false }
def FnExactHiddenOkSaid : Prop := fnExactHiddenOkRow.holds Try.pinned (OpenSpec.ofChange fnExactHiddenOkSpec)

/-- ITS FALSE NEIGHBOUR: 'it returns false'. Refute it at one input. -/
def fnExactHiddenOkWrong : ChangeSpec := { name := "fnExactHiddenOk", fn := fun _ => fun
  | [d] => { results := [.lit (.bool false)], args := [d] }
  | _ => none }
def FnExactHiddenOkWrongFalsely : Prop := fnExactHiddenOkRow.holds Try.pinned (OpenSpec.ofChange fnExactHiddenOkWrong)

/-- 'laws.FnExactHiddenNew': WHATEVER THE INPUT: true; the input reads as it did. -/
def fnExactHiddenNewSpec : ChangeSpec := { name := "fnExactHiddenNew", fn := fun _ => fun
  | [d] => { results := [.lit (.bool true)], args := [d] }
  | _ => none }
def fnExactHiddenNewRow : OpenClaim := { program := "ytlajhgnlllelfaa", sum := "9c66ba746b515dac9155d182b38a5dbb4befca5fa1b7954b0ce1367ac56b69a3", func := "loop.example/underveil/laws.FnExactHiddenNew", spec := "fnExactHiddenNew", unfollowed := true, recurses := true, apart := false }
def FnExactHiddenNewSaid : Prop := fnExactHiddenNewRow.holds Try.pinned (OpenSpec.ofChange fnExactHiddenNewSpec)

/-- ITS FALSE NEIGHBOUR: 'it returns false'. Refute it at one input. -/
def fnExactHiddenNewWrong : ChangeSpec := { name := "fnExactHiddenNew", fn := fun _ => fun
  | [d] => { results := [.lit (.bool false)], args := [d] }
  | _ => none }
def FnExactHiddenNewWrongFalsely : Prop := fnExactHiddenNewRow.holds Try.pinned (OpenSpec.ofChange fnExactHiddenNewWrong)

/-- 'laws.FnExactHiddenDo': WHATEVER THE INPUT: true; the input reads as it did. -/
def fnExactHiddenDoSpec : ChangeSpec := { name := "fnExactHiddenDo", fn := fun _ => fun
  | [d1, d2, d3] => { results := [.lit (.bool true)], args := [d1, d2, d3] }
  | _ => none }
def fnExactHiddenDoRow : OpenClaim := { program := "ytlajhgnlllelfaa", sum := "9c66ba746b515dac9155d182b38a5dbb4befca5fa1b7954b0ce1367ac56b69a3", func := "loop.example/underveil/laws.FnExactHiddenDo", spec := "fnExactHiddenDo", unfollowed := true, recurses := true, apart := false }
def FnExactHiddenDoSaid : Prop := fnExactHiddenDoRow.holds Try.pinned (OpenSpec.ofChange fnExactHiddenDoSpec)

/-- ITS FALSE NEIGHBOUR: 'it returns false'. Refute it at one input. -/
def fnExactHiddenDoWrong : ChangeSpec := { name := "fnExactHiddenDo", fn := fun _ => fun
  | [d1, d2, d3] => { results := [.lit (.bool false)], args := [d1, d2, d3] }
  | _ => none }
def FnExactHiddenDoWrongFalsely : Prop := fnExactHiddenDoRow.holds Try.pinned (OpenSpec.ofChange fnExactHiddenDoWrong)

/-- 'laws.FnExactHiddenRun': WHATEVER THE INPUT: true; the input reads as it did. -/
def fnExactHiddenRunSpec : ChangeSpec := { name := "fnExactHiddenRun", fn := fun _ => fun
  | [d1, d2] => { results := [.lit (.bool true)], args := [d1, d2] }
  | _ => none }
def fnExactHiddenRunRow : OpenClaim := { program := "ytlajhgnlllelfaa", sum := "9c66ba746b515dac9155d182b38a5dbb4befca5fa1b7954b0ce1367ac56b69a3", func := "loop.example/underveil/laws.FnExactHiddenRun", spec := "fnExactHiddenRun", unfollowed := true, recurses := true, apart := false }
def FnExactHiddenRunSaid : Prop := fnExactHiddenRunRow.holds Try.pinned (OpenSpec.ofChange fnExactHiddenRunSpec)

/-- ITS FALSE NEIGHBOUR: 'it returns false'. Refute it at one input. -/
def fnExactHiddenRunWrong : ChangeSpec := { name := "fnExactHiddenRun", fn := fun _ => fun
  | [d1, d2] => { results := [.lit (.bool false)], args := [d1, d2] }
  | _ => none }
def FnExactHiddenRunWrongFalsely : Prop := fnExactHiddenRunRow.holds Try.pinned (OpenSpec.ofChange fnExactHiddenRunWrong)

/-- 'laws.FnExactHiddenSlots': WHATEVER THE INPUT: true; the input reads as it did. -/
def fnExactHiddenSlotsSpec : ChangeSpec := { name := "fnExactHiddenSlots", fn := fun _ => fun
  | [d] => { results := [.lit (.bool true)], args := [d] }
  | _ => none }
def fnExactHiddenSlotsRow : OpenClaim := { program := "ytlajhgnlllelfaa", sum := "9c66ba746b515dac9155d182b38a5dbb4befca5fa1b7954b0ce1367ac56b69a3", func := "loop.example/underveil/laws.FnExactHiddenSlots", spec := "fnExactHiddenSlots", apart := false }
def FnExactHiddenSlotsSaid : Prop := fnExactHiddenSlotsRow.holds Try.pinned (OpenSpec.ofChange fnExactHiddenSlotsSpec)

/-- ITS FALSE NEIGHBOUR: 'it returns false'. Refute it at one input. -/
def fnExactHiddenSlotsWrong : ChangeSpec := { name := "fnExactHiddenSlots", fn := fun _ => fun
  | [d] => { results := [.lit (.bool false)], args := [d] }
  | _ => none }
def FnExactHiddenSlotsWrongFalsely : Prop := fnExactHiddenSlotsRow.holds Try.pinned (OpenSpec.ofChange fnExactHiddenSlotsWrong)

/-- 'laws.FnHiddenRun': WHATEVER THE INPUT: true; the input reads as it did. -/
def fnHiddenRunSpec : ChangeSpec := { name := "fnHiddenRun", fn := fun _ => fun
  | [d] => { results := [.lit (.bool true)], args := [d] }
  | _ => none }
def fnHiddenRunRow : OpenClaim := { program := "ytlajhgnlllelfaa", sum := "9c66ba746b515dac9155d182b38a5dbb4befca5fa1b7954b0ce1367ac56b69a3", func := "loop.example/underveil/laws.FnHiddenRun", spec := "fnHiddenRun", unfollowed := true, recurses := true, apart := false }
def FnHiddenRunSaid : Prop := fnHiddenRunRow.holds Try.pinned (OpenSpec.ofChange fnHiddenRunSpec)

/-- ITS FALSE NEIGHBOUR: 'it returns false'. Refute it at one input. -/
def fnHiddenRunWrong : ChangeSpec := { name := "fnHiddenRun", fn := fun _ => fun
  | [d] => { results := [.lit (.bool false)], args := [d] }
  | _ => none }
def FnHiddenRunWrongFalsely : Prop := fnHiddenRunRow.holds Try.pinned (OpenSpec.ofChange fnHiddenRunWrong)

/-- 'laws.FnHiddenSlots': WHATEVER THE INPUT: true; the input reads as it did. -/
def fnHiddenSlotsSpec : ChangeSpec := { name := "fnHiddenSlots", fn := fun _ => fun
  | [d] => { results := [.lit (.bool true)], args := [d] }
  | _ => none }
def fnHiddenSlotsRow : OpenClaim := { program := "ytlajhgnlllelfaa", sum := "9c66ba746b515dac9155d182b38a5dbb4befca5fa1b7954b0ce1367ac56b69a3", func := "loop.example/underveil/laws.FnHiddenSlots", spec := "fnHiddenSlots", apart := false }
def FnHiddenSlotsSaid : Prop := fnHiddenSlotsRow.holds Try.pinned (OpenSpec.ofChange fnHiddenSlotsSpec)

/-- ITS FALSE NEIGHBOUR: 'it returns false'. Refute it at one input. -/
def fnHiddenSlotsWrong : ChangeSpec := { name := "fnHiddenSlots", fn := fun _ => fun
  | [d] => { results := [.lit (.bool false)], args := [d] }
  | _ => none }
def FnHiddenSlotsWrongFalsely : Prop := fnHiddenSlotsRow.holds Try.pinned (OpenSpec.ofChange fnHiddenSlotsWrong)

/-- 'laws.FnHiddenWays': WHATEVER THE INPUT: true; the input reads as it did. -/
def fnHiddenWaysSpec : ChangeSpec := { name := "fnHiddenWays", fn := fun _ => fun
  | [d] => { results := [.lit (.bool true)], args := [d] }
  | _ => none }
def fnHiddenWaysRow : OpenClaim := { program := "ytlajhgnlllelfaa", sum := "9c66ba746b515dac9155d182b38a5dbb4befca5fa1b7954b0ce1367ac56b69a3", func := "loop.example/underveil/laws.FnHiddenWays", spec := "fnHiddenWays", unfollowed := true, recurses := true, apart := false }
def FnHiddenWaysSaid : Prop := fnHiddenWaysRow.holds Try.pinned (OpenSpec.ofChange fnHiddenWaysSpec)

/-- ITS FALSE NEIGHBOUR: 'it returns false'. Refute it at one input. -/
def fnHiddenWaysWrong : ChangeSpec := { name := "fnHiddenWays", fn := fun _ => fun
  | [d] => { results := [.lit (.bool false)], args := [d] }
  | _ => none }
def FnHiddenWaysWrongFalsely : Prop := fnHiddenWaysRow.holds Try.pinned (OpenSpec.ofChange fnHiddenWaysWrong)

/- THE SECOND FORM. 'bulk': how many values and letters a reading holds, each counted each time it is reached (what is shared counts as often as it is met; a slice's spare places count too). A statement '..UptoSaid' is the law's where the arguments, and the package variables that the reading takes, are together of bulk at most 1048576: NARROWER than '..Said'. Prove '..Said' where nothing that the law and all that it calls make is longer than what came in: it says more and counts as full. Else prove '..UptoSaid'. A law counts once. -/
mutual
def uptoBulk {H : Type} : DataW H → Nat
  | .lit (.string bytes) => bytes.length + 1
  | .lit _ => 1
  | .nil => 1
  | .ptr d => uptoBulk d + 1
  | .slice elems spare => uptoBulkAll elems + uptoBulkAll spare + 1
  | .agg parts => uptoBulkAll parts + 1
  | .iface _ d => uptoBulk d + 1
  | .map entries => uptoBulkEntries entries + 1
  | .held _ => 1
def uptoBulkAll {H : Type} : List (DataW H) → Nat
  | [] => 0
  | d :: r => uptoBulk d + uptoBulkAll r
def uptoBulkEntries {H : Type} : List (Lit × DataW H) → Nat
  | [] => 0
  | x :: r => uptoBulkEntry x + uptoBulkEntries r
def uptoBulkEntry {H : Type} : Lit × DataW H → Nat
  | (.string bytes, d) => bytes.length + uptoBulk d + 1
  | (_, d) => uptoBulk d + 1
 end
def uptoSmall : (H : Type) → List (DataW H) → Bool := fun _ ds => decide (uptoBulkAll ds ≤ 1048576)
def OpenSpec.upto (s : _root_.Go.ChangeSpec) : _root_.Go.OpenSpec := { _root_.Go.OpenSpec.ofChange s with cond := some uptoSmall }

/-- 'laws.FnExactHiddenOk', WHERE WHAT IT READS IS OF BULK AT MOST 1048576: true; the input reads as it did. -/
def fnExactHiddenOkUptoRow : OpenClaim := { program := "ytlajhgnlllelfaa", sum := "9c66ba746b515dac9155d182b38a5dbb4befca5fa1b7954b0ce1367ac56b69a3", func := "loop.example/underveil/laws.FnExactHiddenOk", spec := "fnExactHiddenOk", unfollowed := true, recurses := true, apart := false, narrowed := true }
def FnExactHiddenOkUptoSaid : Prop := fnExactHiddenOkUptoRow.holds Try.pinned (OpenSpec.upto fnExactHiddenOkSpec)

/-- 'laws.FnExactHiddenNew', WHERE WHAT IT READS IS OF BULK AT MOST 1048576: true; the input reads as it did. -/
def fnExactHiddenNewUptoRow : OpenClaim := { program := "ytlajhgnlllelfaa", sum := "9c66ba746b515dac9155d182b38a5dbb4befca5fa1b7954b0ce1367ac56b69a3", func := "loop.example/underveil/laws.FnExactHiddenNew", spec := "fnExactHiddenNew", unfollowed := true, recurses := true, apart := false, narrowed := true }
def FnExactHiddenNewUptoSaid : Prop := fnExactHiddenNewUptoRow.holds Try.pinned (OpenSpec.upto fnExactHiddenNewSpec)

/-- 'laws.FnExactHiddenDo', WHERE WHAT IT READS IS OF BULK AT MOST 1048576: true; the input reads as it did. -/
def fnExactHiddenDoUptoRow : OpenClaim := { program := "ytlajhgnlllelfaa", sum := "9c66ba746b515dac9155d182b38a5dbb4befca5fa1b7954b0ce1367ac56b69a3", func := "loop.example/underveil/laws.FnExactHiddenDo", spec := "fnExactHiddenDo", unfollowed := true, recurses := true, apart := false, narrowed := true }
def FnExactHiddenDoUptoSaid : Prop := fnExactHiddenDoUptoRow.holds Try.pinned (OpenSpec.upto fnExactHiddenDoSpec)

/-- 'laws.FnExactHiddenRun', WHERE WHAT IT READS IS OF BULK AT MOST 1048576: true; the input reads as it did. -/
def fnExactHiddenRunUptoRow : OpenClaim := { program := "ytlajhgnlllelfaa", sum := "9c66ba746b515dac9155d182b38a5dbb4befca5fa1b7954b0ce1367ac56b69a3", func := "loop.example/underveil/laws.FnExactHiddenRun", spec := "fnExactHiddenRun", unfollowed := true, recurses := true, apart := false, narrowed := true }
def FnExactHiddenRunUptoSaid : Prop := fnExactHiddenRunUptoRow.holds Try.pinned (OpenSpec.upto fnExactHiddenRunSpec)

/-- 'laws.FnExactHiddenSlots', WHERE WHAT IT READS IS OF BULK AT MOST 1048576: true; the input reads as it did. -/
def fnExactHiddenSlotsUptoRow : OpenClaim := { program := "ytlajhgnlllelfaa", sum := "9c66ba746b515dac9155d182b38a5dbb4befca5fa1b7954b0ce1367ac56b69a3", func := "loop.example/underveil/laws.FnExactHiddenSlots", spec := "fnExactHiddenSlots", apart := false, narrowed := true }
def FnExactHiddenSlotsUptoSaid : Prop := fnExactHiddenSlotsUptoRow.holds Try.pinned (OpenSpec.upto fnExactHiddenSlotsSpec)

/-- 'laws.FnHiddenRun', WHERE WHAT IT READS IS OF BULK AT MOST 1048576: true; the input reads as it did. -/
def fnHiddenRunUptoRow : OpenClaim := { program := "ytlajhgnlllelfaa", sum := "9c66ba746b515dac9155d182b38a5dbb4befca5fa1b7954b0ce1367ac56b69a3", func := "loop.example/underveil/laws.FnHiddenRun", spec := "fnHiddenRun", unfollowed := true, recurses := true, apart := false, narrowed := true }
def FnHiddenRunUptoSaid : Prop := fnHiddenRunUptoRow.holds Try.pinned (OpenSpec.upto fnHiddenRunSpec)

/-- 'laws.FnHiddenSlots', WHERE WHAT IT READS IS OF BULK AT MOST 1048576: true; the input reads as it did. -/
def fnHiddenSlotsUptoRow : OpenClaim := { program := "ytlajhgnlllelfaa", sum := "9c66ba746b515dac9155d182b38a5dbb4befca5fa1b7954b0ce1367ac56b69a3", func := "loop.example/underveil/laws.FnHiddenSlots", spec := "fnHiddenSlots", apart := false, narrowed := true }
def FnHiddenSlotsUptoSaid : Prop := fnHiddenSlotsUptoRow.holds Try.pinned (OpenSpec.upto fnHiddenSlotsSpec)

/-- 'laws.FnHiddenWays', WHERE WHAT IT READS IS OF BULK AT MOST 1048576: true; the input reads as it did. -/
def fnHiddenWaysUptoRow : OpenClaim := { program := "ytlajhgnlllelfaa", sum := "9c66ba746b515dac9155d182b38a5dbb4befca5fa1b7954b0ce1367ac56b69a3", func := "loop.example/underveil/laws.FnHiddenWays", spec := "fnHiddenWays", unfollowed := true, recurses := true, apart := false, narrowed := true }
def FnHiddenWaysUptoSaid : Prop := fnHiddenWaysUptoRow.holds Try.pinned (OpenSpec.upto fnHiddenWaysSpec)

end Rows
end Go.Proofs.Ytlajhgnlllelfaa

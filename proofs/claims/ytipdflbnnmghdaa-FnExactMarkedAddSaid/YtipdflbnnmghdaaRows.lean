/-
  No cell of these rows narrows 'for every input' (looked for: loops, veiled, ifaces, maps, wideKeys, modest, calm, conditions, laid).
  DERIVED. THE GIVEN ROWS OF THIS SEAT. 11 by the template 'for every input the law returns true; each argument reads behind the call as it read before'; 0 by the template 'total and deterministic' (their statements: YtipdflbnnmghdaaTotals.lean).
  GIVEN WITH THE SEED: the statements are not yours to turn. If you find one false, say at which input.
  Laid BY PROGRAM, IN A SANDBOX (cutbox-rows.mjs): the forced cells as the released guide's own fill.sh prints them over the translation fab26a8d02f8d732… (all of the seat's roots in one cut). By AI agents, Wed Nov 11 2026. No macro, syntax, notation, axiom, sorry.
-/
import Derived.Test.YtipdflbnnmghdaaChecked
import GoSem.Claim
import GoSem.ClaimJoined
import GoSem.ClaimMapViews
import Derived.JoinedTies
import Derived.KernelRfl
namespace Go.Proofs.Ytipdflbnnmghdaa
/- THE CELL 'sum', in the pinned program and in every row, IS THE sha256 OF THE DUMP (.gsa) THAT YtipdflbnnmghdaaProg.lean LOADS. Nothing in Lean hashes anything: it is a label: what it is worth is what the hold of that sum in a sandbox is worth. -/
noncomputable def Try.pinned : Pinned := { name := "ytipdflbnnmghdaa", sum := "fab26a8d02f8d7321d6f63b6123b13e644ea157379948d8f24353d63f29ddf60", checked := Try.checked }
namespace Rows
def none {H : Type} : Left H := { results := [], args := [] }

/-- 'laws.FnExactHiddenOk': WHATEVER THE INPUT: true; the input reads as it did. -/
def fnExactHiddenOkSpec : ChangeSpec := { name := "fnExactHiddenOk", fn := fun _ => fun
  | [d] => { results := [.lit (.bool true)], args := [d] }
  | _ => none }
def fnExactHiddenOkRow : OpenClaim := { program := "ytipdflbnnmghdaa", sum := "fab26a8d02f8d7321d6f63b6123b13e644ea157379948d8f24353d63f29ddf60", func := "loop.example/underveil/laws.FnExactHiddenOk", spec := "fnExactHiddenOk", unfollowed := true, recurses := true, apart := false }
def FnExactHiddenOkSaid : Prop := fnExactHiddenOkRow.holds Try.pinned (OpenSpec.ofChange fnExactHiddenOkSpec)

/-- ITS FALSE NEIGHBOUR: 'it returns false'. Refute it at one input. -/
def fnExactHiddenOkWrong : ChangeSpec := { name := "fnExactHiddenOk", fn := fun _ => fun
  | [d] => { results := [.lit (.bool false)], args := [d] }
  | _ => none }
def FnExactHiddenOkWrongFalsely : Prop := fnExactHiddenOkRow.holds Try.pinned (OpenSpec.ofChange fnExactHiddenOkWrong)

/-- 'laws.FnExactHiddenNew': WHATEVER THE INPUT: true; the input reads as it did. -/
def fnExactHiddenNewSpec : ChangeSpec := { name := "fnExactHiddenNew", fn := fun _ => fun
  | [d] => { results := [.lit (.bool true)], args := [d] }
  | _ => none }
def fnExactHiddenNewRow : OpenClaim := { program := "ytipdflbnnmghdaa", sum := "fab26a8d02f8d7321d6f63b6123b13e644ea157379948d8f24353d63f29ddf60", func := "loop.example/underveil/laws.FnExactHiddenNew", spec := "fnExactHiddenNew", unfollowed := true, recurses := true, apart := false }
def FnExactHiddenNewSaid : Prop := fnExactHiddenNewRow.holds Try.pinned (OpenSpec.ofChange fnExactHiddenNewSpec)

/-- ITS FALSE NEIGHBOUR: 'it returns false'. Refute it at one input. -/
def fnExactHiddenNewWrong : ChangeSpec := { name := "fnExactHiddenNew", fn := fun _ => fun
  | [d] => { results := [.lit (.bool false)], args := [d] }
  | _ => none }
def FnExactHiddenNewWrongFalsely : Prop := fnExactHiddenNewRow.holds Try.pinned (OpenSpec.ofChange fnExactHiddenNewWrong)

/-- 'laws.FnExactHiddenDo': WHATEVER THE INPUT: true; the input reads as it did. -/
def fnExactHiddenDoSpec : ChangeSpec := { name := "fnExactHiddenDo", fn := fun _ => fun
  | [d1, d2, d3] => { results := [.lit (.bool true)], args := [d1, d2, d3] }
  | _ => none }
def fnExactHiddenDoRow : OpenClaim := { program := "ytipdflbnnmghdaa", sum := "fab26a8d02f8d7321d6f63b6123b13e644ea157379948d8f24353d63f29ddf60", func := "loop.example/underveil/laws.FnExactHiddenDo", spec := "fnExactHiddenDo", unfollowed := true, recurses := true, apart := false }
def FnExactHiddenDoSaid : Prop := fnExactHiddenDoRow.holds Try.pinned (OpenSpec.ofChange fnExactHiddenDoSpec)

/-- ITS FALSE NEIGHBOUR: 'it returns false'. Refute it at one input. -/
def fnExactHiddenDoWrong : ChangeSpec := { name := "fnExactHiddenDo", fn := fun _ => fun
  | [d1, d2, d3] => { results := [.lit (.bool false)], args := [d1, d2, d3] }
  | _ => none }
def FnExactHiddenDoWrongFalsely : Prop := fnExactHiddenDoRow.holds Try.pinned (OpenSpec.ofChange fnExactHiddenDoWrong)

/-- 'laws.FnExactHiddenRun': WHATEVER THE INPUT: true; the input reads as it did. -/
def fnExactHiddenRunSpec : ChangeSpec := { name := "fnExactHiddenRun", fn := fun _ => fun
  | [d1, d2] => { results := [.lit (.bool true)], args := [d1, d2] }
  | _ => none }
def fnExactHiddenRunRow : OpenClaim := { program := "ytipdflbnnmghdaa", sum := "fab26a8d02f8d7321d6f63b6123b13e644ea157379948d8f24353d63f29ddf60", func := "loop.example/underveil/laws.FnExactHiddenRun", spec := "fnExactHiddenRun", unfollowed := true, recurses := true, apart := false }
def FnExactHiddenRunSaid : Prop := fnExactHiddenRunRow.holds Try.pinned (OpenSpec.ofChange fnExactHiddenRunSpec)

/-- ITS FALSE NEIGHBOUR: 'it returns false'. Refute it at one input. -/
def fnExactHiddenRunWrong : ChangeSpec := { name := "fnExactHiddenRun", fn := fun _ => fun
  | [d1, d2] => { results := [.lit (.bool false)], args := [d1, d2] }
  | _ => none }
def FnExactHiddenRunWrongFalsely : Prop := fnExactHiddenRunRow.holds Try.pinned (OpenSpec.ofChange fnExactHiddenRunWrong)

/-- 'laws.FnHiddenRun': WHATEVER THE INPUT: true; the input reads as it did. -/
def fnHiddenRunSpec : ChangeSpec := { name := "fnHiddenRun", fn := fun _ => fun
  | [d] => { results := [.lit (.bool true)], args := [d] }
  | _ => none }
def fnHiddenRunRow : OpenClaim := { program := "ytipdflbnnmghdaa", sum := "fab26a8d02f8d7321d6f63b6123b13e644ea157379948d8f24353d63f29ddf60", func := "loop.example/underveil/laws.FnHiddenRun", spec := "fnHiddenRun", unfollowed := true, recurses := true, apart := false }
def FnHiddenRunSaid : Prop := fnHiddenRunRow.holds Try.pinned (OpenSpec.ofChange fnHiddenRunSpec)

/-- ITS FALSE NEIGHBOUR: 'it returns false'. Refute it at one input. -/
def fnHiddenRunWrong : ChangeSpec := { name := "fnHiddenRun", fn := fun _ => fun
  | [d] => { results := [.lit (.bool false)], args := [d] }
  | _ => none }
def FnHiddenRunWrongFalsely : Prop := fnHiddenRunRow.holds Try.pinned (OpenSpec.ofChange fnHiddenRunWrong)

/-- 'laws.FnHiddenWays': WHATEVER THE INPUT: true; the input reads as it did. -/
def fnHiddenWaysSpec : ChangeSpec := { name := "fnHiddenWays", fn := fun _ => fun
  | [d] => { results := [.lit (.bool true)], args := [d] }
  | _ => none }
def fnHiddenWaysRow : OpenClaim := { program := "ytipdflbnnmghdaa", sum := "fab26a8d02f8d7321d6f63b6123b13e644ea157379948d8f24353d63f29ddf60", func := "loop.example/underveil/laws.FnHiddenWays", spec := "fnHiddenWays", unfollowed := true, recurses := true, apart := false }
def FnHiddenWaysSaid : Prop := fnHiddenWaysRow.holds Try.pinned (OpenSpec.ofChange fnHiddenWaysSpec)

/-- ITS FALSE NEIGHBOUR: 'it returns false'. Refute it at one input. -/
def fnHiddenWaysWrong : ChangeSpec := { name := "fnHiddenWays", fn := fun _ => fun
  | [d] => { results := [.lit (.bool false)], args := [d] }
  | _ => none }
def FnHiddenWaysWrongFalsely : Prop := fnHiddenWaysRow.holds Try.pinned (OpenSpec.ofChange fnHiddenWaysWrong)

/-- 'laws.FnExactMarkedAdd': WHATEVER THE INPUT: true; the input reads as it did. -/
def fnExactMarkedAddSpec : ChangeSpec := { name := "fnExactMarkedAdd", fn := fun _ => fun
  | [d1, d2] => { results := [.lit (.bool true)], args := [d1, d2] }
  | _ => none }
def fnExactMarkedAddRow : OpenClaim := { program := "ytipdflbnnmghdaa", sum := "fab26a8d02f8d7321d6f63b6123b13e644ea157379948d8f24353d63f29ddf60", func := "loop.example/underveil/laws.FnExactMarkedAdd", spec := "fnExactMarkedAdd", apart := false }
def FnExactMarkedAddSaid : Prop := fnExactMarkedAddRow.holds Try.pinned (OpenSpec.ofChange fnExactMarkedAddSpec)

/-- ITS FALSE NEIGHBOUR: 'it returns false'. Refute it at one input. -/
def fnExactMarkedAddWrong : ChangeSpec := { name := "fnExactMarkedAdd", fn := fun _ => fun
  | [d1, d2] => { results := [.lit (.bool false)], args := [d1, d2] }
  | _ => none }
def FnExactMarkedAddWrongFalsely : Prop := fnExactMarkedAddRow.holds Try.pinned (OpenSpec.ofChange fnExactMarkedAddWrong)

/-- 'laws.FnExactMarkedProduct': WHATEVER THE INPUT: true; the input reads as it did. -/
def fnExactMarkedProductSpec : ChangeSpec := { name := "fnExactMarkedProduct", fn := fun _ => fun
  | [d1, d2, d3, d4, d5, d6] => { results := [.lit (.bool true)], args := [d1, d2, d3, d4, d5, d6] }
  | _ => none }
def fnExactMarkedProductRow : OpenClaim := { program := "ytipdflbnnmghdaa", sum := "fab26a8d02f8d7321d6f63b6123b13e644ea157379948d8f24353d63f29ddf60", func := "loop.example/underveil/laws.FnExactMarkedProduct", spec := "fnExactMarkedProduct", apart := false }
def FnExactMarkedProductSaid : Prop := fnExactMarkedProductRow.holds Try.pinned (OpenSpec.ofChange fnExactMarkedProductSpec)

/-- ITS FALSE NEIGHBOUR: 'it returns false'. Refute it at one input. -/
def fnExactMarkedProductWrong : ChangeSpec := { name := "fnExactMarkedProduct", fn := fun _ => fun
  | [d1, d2, d3, d4, d5, d6] => { results := [.lit (.bool false)], args := [d1, d2, d3, d4, d5, d6] }
  | _ => none }
def FnExactMarkedProductWrongFalsely : Prop := fnExactMarkedProductRow.holds Try.pinned (OpenSpec.ofChange fnExactMarkedProductWrong)

/-- 'laws.FnMarkedCheck': WHATEVER THE INPUT: true; the input reads as it did. -/
def fnMarkedCheckSpec : ChangeSpec := { name := "fnMarkedCheck", fn := fun _ => fun
  | [d] => { results := [.lit (.bool true)], args := [d] }
  | _ => none }
def fnMarkedCheckRow : OpenClaim := { program := "ytipdflbnnmghdaa", sum := "fab26a8d02f8d7321d6f63b6123b13e644ea157379948d8f24353d63f29ddf60", func := "loop.example/underveil/laws.FnMarkedCheck", spec := "fnMarkedCheck", apart := false }
def FnMarkedCheckSaid : Prop := fnMarkedCheckRow.holds Try.pinned (OpenSpec.ofChange fnMarkedCheckSpec)

/-- ITS FALSE NEIGHBOUR: 'it returns false'. Refute it at one input. -/
def fnMarkedCheckWrong : ChangeSpec := { name := "fnMarkedCheck", fn := fun _ => fun
  | [d] => { results := [.lit (.bool false)], args := [d] }
  | _ => none }
def FnMarkedCheckWrongFalsely : Prop := fnMarkedCheckRow.holds Try.pinned (OpenSpec.ofChange fnMarkedCheckWrong)

/-- 'laws.FnMarkedShift': WHATEVER THE INPUT: true; the input reads as it did. -/
def fnMarkedShiftSpec : ChangeSpec := { name := "fnMarkedShift", fn := fun _ => fun
  | [d] => { results := [.lit (.bool true)], args := [d] }
  | _ => none }
def fnMarkedShiftRow : OpenClaim := { program := "ytipdflbnnmghdaa", sum := "fab26a8d02f8d7321d6f63b6123b13e644ea157379948d8f24353d63f29ddf60", func := "loop.example/underveil/laws.FnMarkedShift", spec := "fnMarkedShift", apart := false }
def FnMarkedShiftSaid : Prop := fnMarkedShiftRow.holds Try.pinned (OpenSpec.ofChange fnMarkedShiftSpec)

/-- ITS FALSE NEIGHBOUR: 'it returns false'. Refute it at one input. -/
def fnMarkedShiftWrong : ChangeSpec := { name := "fnMarkedShift", fn := fun _ => fun
  | [d] => { results := [.lit (.bool false)], args := [d] }
  | _ => none }
def FnMarkedShiftWrongFalsely : Prop := fnMarkedShiftRow.holds Try.pinned (OpenSpec.ofChange fnMarkedShiftWrong)

/-- 'laws.FnExactCircuitJoin': WHATEVER THE INPUT: true; the input reads as it did. -/
def fnExactCircuitJoinSpec : ChangeSpec := { name := "fnExactCircuitJoin", fn := fun _ => fun
  | [d1, d2] => { results := [.lit (.bool true)], args := [d1, d2] }
  | _ => none }
def fnExactCircuitJoinRow : OpenClaim := { program := "ytipdflbnnmghdaa", sum := "fab26a8d02f8d7321d6f63b6123b13e644ea157379948d8f24353d63f29ddf60", func := "loop.example/underveil/laws.FnExactCircuitJoin", spec := "fnExactCircuitJoin", unfollowed := true, recurses := true, apart := false }
def FnExactCircuitJoinSaid : Prop := fnExactCircuitJoinRow.holds Try.pinned (OpenSpec.ofChange fnExactCircuitJoinSpec)

/-- ITS FALSE NEIGHBOUR: 'it returns false'. Refute it at one input. -/
def fnExactCircuitJoinWrong : ChangeSpec := { name := "fnExactCircuitJoin", fn := fun _ => fun
  | [d1, d2] => { results := [.lit (.bool false)], args := [d1, d2] }
  | _ => none }
def FnExactCircuitJoinWrongFalsely : Prop := fnExactCircuitJoinRow.holds Try.pinned (OpenSpec.ofChange fnExactCircuitJoinWrong)

/- THE SECOND FORM. 'bulk': how many values and letters a reading holds, each counted each time it is reached (what is shared counts as often as it is met; a slice's spare places count too). A statement '..UptoSaid' is the law's where the arguments, and the package variables that the reading takes, are together of bulk at most 1048576: NARROWER than '..Said'. Prove '..Said' where nothing that the law and all that it calls make is longer than what came in: it says more and counts as full. Else prove '..UptoSaid'. A law counts once. -/
mutual
def uptoBulk {H : Type} : DataW H → Nat
  | .lit (.string bytes) => bytes.length + 1
  | .lit _ => 1
  | .nil => 1
  | .ptr d => uptoBulk d + 1
  | .slice elems spare => uptoBulkAll elems + uptoBulkAll spare + 1
  | .agg parts => uptoBulkAll parts + 1
  | .iface _ d => uptoBulk d + 1
  | .map entries => uptoBulkEntries entries + 1
  | .held _ => 1
def uptoBulkAll {H : Type} : List (DataW H) → Nat
  | [] => 0
  | d :: r => uptoBulk d + uptoBulkAll r
def uptoBulkEntries {H : Type} : List (Lit × DataW H) → Nat
  | [] => 0
  | x :: r => uptoBulkEntry x + uptoBulkEntries r
def uptoBulkEntry {H : Type} : Lit × DataW H → Nat
  | (.string bytes, d) => bytes.length + uptoBulk d + 1
  | (_, d) => uptoBulk d + 1
 end
def uptoSmall : (H : Type) → List (DataW H) → Bool := fun _ ds => decide (uptoBulkAll ds ≤ 1048576)
def OpenSpec.upto (s : _root_.Go.ChangeSpec) : _root_.Go.OpenSpec := { _root_.Go.OpenSpec.ofChange s with cond := some uptoSmall }

/-- 'laws.FnExactHiddenOk', WHERE WHAT IT READS IS OF BULK AT MOST 1048576: true; the input reads as it did. -/
def fnExactHiddenOkUptoRow : OpenClaim := { program := "ytipdflbnnmghdaa", sum := "fab26a8d02f8d7321d6f63b6123b13e644ea157379948d8f24353d63f29ddf60", func := "loop.example/underveil/laws.FnExactHiddenOk", spec := "fnExactHiddenOk", unfollowed := true, recurses := true, apart := false, narrowed := true }
def FnExactHiddenOkUptoSaid : Prop := fnExactHiddenOkUptoRow.holds Try.pinned (OpenSpec.upto fnExactHiddenOkSpec)

/-- 'laws.FnExactHiddenNew', WHERE WHAT IT READS IS OF BULK AT MOST 1048576: true; the input reads as it did. -/
def fnExactHiddenNewUptoRow : OpenClaim := { program := "ytipdflbnnmghdaa", sum := "fab26a8d02f8d7321d6f63b6123b13e644ea157379948d8f24353d63f29ddf60", func := "loop.example/underveil/laws.FnExactHiddenNew", spec := "fnExactHiddenNew", unfollowed := true, recurses := true, apart := false, narrowed := true }
def FnExactHiddenNewUptoSaid : Prop := fnExactHiddenNewUptoRow.holds Try.pinned (OpenSpec.upto fnExactHiddenNewSpec)

/-- 'laws.FnExactHiddenDo', WHERE WHAT IT READS IS OF BULK AT MOST 1048576: true; the input reads as it did. -/
def fnExactHiddenDoUptoRow : OpenClaim := { program := "ytipdflbnnmghdaa", sum := "fab26a8d02f8d7321d6f63b6123b13e644ea157379948d8f24353d63f29ddf60", func := "loop.example/underveil/laws.FnExactHiddenDo", spec := "fnExactHiddenDo", unfollowed := true, recurses := true, apart := false, narrowed := true }
def FnExactHiddenDoUptoSaid : Prop := fnExactHiddenDoUptoRow.holds Try.pinned (OpenSpec.upto fnExactHiddenDoSpec)

/-- 'laws.FnExactHiddenRun', WHERE WHAT IT READS IS OF BULK AT MOST 1048576: true; the input reads as it did. -/
def fnExactHiddenRunUptoRow : OpenClaim := { program := "ytipdflbnnmghdaa", sum := "fab26a8d02f8d7321d6f63b6123b13e644ea157379948d8f24353d63f29ddf60", func := "loop.example/underveil/laws.FnExactHiddenRun", spec := "fnExactHiddenRun", unfollowed := true, recurses := true, apart := false, narrowed := true }
def FnExactHiddenRunUptoSaid : Prop := fnExactHiddenRunUptoRow.holds Try.pinned (OpenSpec.upto fnExactHiddenRunSpec)

/-- 'laws.FnHiddenRun', WHERE WHAT IT READS IS OF BULK AT MOST 1048576: true; the input reads as it did. -/
def fnHiddenRunUptoRow : OpenClaim := { program := "ytipdflbnnmghdaa", sum := "fab26a8d02f8d7321d6f63b6123b13e644ea157379948d8f24353d63f29ddf60", func := "loop.example/underveil/laws.FnHiddenRun", spec := "fnHiddenRun", unfollowed := true, recurses := true, apart := false, narrowed := true }
def FnHiddenRunUptoSaid : Prop := fnHiddenRunUptoRow.holds Try.pinned (OpenSpec.upto fnHiddenRunSpec)

/-- 'laws.FnHiddenWays', WHERE WHAT IT READS IS OF BULK AT MOST 1048576: true; the input reads as it did. -/
def fnHiddenWaysUptoRow : OpenClaim := { program := "ytipdflbnnmghdaa", sum := "fab26a8d02f8d7321d6f63b6123b13e644ea157379948d8f24353d63f29ddf60", func := "loop.example/underveil/laws.FnHiddenWays", spec := "fnHiddenWays", unfollowed := true, recurses := true, apart := false, narrowed := true }
def FnHiddenWaysUptoSaid : Prop := fnHiddenWaysUptoRow.holds Try.pinned (OpenSpec.upto fnHiddenWaysSpec)

/-- 'laws.FnExactMarkedAdd', WHERE WHAT IT READS IS OF BULK AT MOST 1048576: true; the input reads as it did. -/
def fnExactMarkedAddUptoRow : OpenClaim := { program := "ytipdflbnnmghdaa", sum := "fab26a8d02f8d7321d6f63b6123b13e644ea157379948d8f24353d63f29ddf60", func := "loop.example/underveil/laws.FnExactMarkedAdd", spec := "fnExactMarkedAdd", apart := false, narrowed := true }
def FnExactMarkedAddUptoSaid : Prop := fnExactMarkedAddUptoRow.holds Try.pinned (OpenSpec.upto fnExactMarkedAddSpec)

/-- 'laws.FnExactMarkedProduct', WHERE WHAT IT READS IS OF BULK AT MOST 1048576: true; the input reads as it did. -/
def fnExactMarkedProductUptoRow : OpenClaim := { program := "ytipdflbnnmghdaa", sum := "fab26a8d02f8d7321d6f63b6123b13e644ea157379948d8f24353d63f29ddf60", func := "loop.example/underveil/laws.FnExactMarkedProduct", spec := "fnExactMarkedProduct", apart := false, narrowed := true }
def FnExactMarkedProductUptoSaid : Prop := fnExactMarkedProductUptoRow.holds Try.pinned (OpenSpec.upto fnExactMarkedProductSpec)

/-- 'laws.FnMarkedCheck', WHERE WHAT IT READS IS OF BULK AT MOST 1048576: true; the input reads as it did. -/
def fnMarkedCheckUptoRow : OpenClaim := { program := "ytipdflbnnmghdaa", sum := "fab26a8d02f8d7321d6f63b6123b13e644ea157379948d8f24353d63f29ddf60", func := "loop.example/underveil/laws.FnMarkedCheck", spec := "fnMarkedCheck", apart := false, narrowed := true }
def FnMarkedCheckUptoSaid : Prop := fnMarkedCheckUptoRow.holds Try.pinned (OpenSpec.upto fnMarkedCheckSpec)

/-- 'laws.FnMarkedShift', WHERE WHAT IT READS IS OF BULK AT MOST 1048576: true; the input reads as it did. -/
def fnMarkedShiftUptoRow : OpenClaim := { program := "ytipdflbnnmghdaa", sum := "fab26a8d02f8d7321d6f63b6123b13e644ea157379948d8f24353d63f29ddf60", func := "loop.example/underveil/laws.FnMarkedShift", spec := "fnMarkedShift", apart := false, narrowed := true }
def FnMarkedShiftUptoSaid : Prop := fnMarkedShiftUptoRow.holds Try.pinned (OpenSpec.upto fnMarkedShiftSpec)

/-- 'laws.FnExactCircuitJoin', WHERE WHAT IT READS IS OF BULK AT MOST 1048576: true; the input reads as it did. -/
def fnExactCircuitJoinUptoRow : OpenClaim := { program := "ytipdflbnnmghdaa", sum := "fab26a8d02f8d7321d6f63b6123b13e644ea157379948d8f24353d63f29ddf60", func := "loop.example/underveil/laws.FnExactCircuitJoin", spec := "fnExactCircuitJoin", unfollowed := true, recurses := true, apart := false, narrowed := true }
def FnExactCircuitJoinUptoSaid : Prop := fnExactCircuitJoinUptoRow.holds Try.pinned (OpenSpec.upto fnExactCircuitJoinSpec)

end Rows
end Go.Proofs.Ytipdflbnnmghdaa

/-
  No cell of these rows narrows 'for every input' (looked for: loops, veiled, ifaces, maps, wideKeys, modest, calm, conditions, laid).
  DERIVED. THE GIVEN ROWS OF THIS SEAT. 13 by the template 'for every input the law returns true; each argument reads behind the call as it read before'; 0 by the template 'total and deterministic' (their statements: YtbabkaofhhaneaaTotals.lean).
  GIVEN WITH THE SEED: the statements are not yours to turn. If you find one false, say at which input.
  Laid BY PROGRAM, IN A SANDBOX (cutbox-rows.mjs): the forced cells as the released guide's own fill.sh prints them over the translation b95a41fa6fa4222a… (all of the seat's roots in one cut). By AI agents, Wed Nov 11 2026. No macro, syntax, notation, axiom, sorry.
-/
import Derived.Test.YtbabkaofhhaneaaChecked
import GoSem.Claim
import GoSem.ClaimJoined
import GoSem.ClaimMapViews
import Derived.JoinedTies
import Derived.KernelRfl
namespace Go.Proofs.Ytbabkaofhhaneaa
/- THE CELL 'sum', in the pinned program and in every row, IS THE sha256 OF THE DUMP (.gsa) THAT YtbabkaofhhaneaaProg.lean LOADS. Nothing in Lean hashes anything: it is a label: what it is worth is what the hold of that sum in a sandbox is worth. -/
noncomputable def Try.pinned : Pinned := { name := "ytbabkaofhhaneaa", sum := "b95a41fa6fa4222a160e9c14ca8b46fd6c65e56947dc82496c630a40c89d29e2", checked := Try.checked }
namespace Rows
def none {H : Type} : Left H := { results := [], args := [] }

/-- 'laws.FnExactTableOk': WHATEVER THE INPUT: true; the input reads as it did. -/
def fnExactTableOkSpec : ChangeSpec := { name := "fnExactTableOk", fn := fun _ => fun
  | [d] => { results := [.lit (.bool true)], args := [d] }
  | _ => none }
def fnExactTableOkRow : OpenClaim := { program := "ytbabkaofhhaneaa", sum := "b95a41fa6fa4222a160e9c14ca8b46fd6c65e56947dc82496c630a40c89d29e2", func := "loop.example/underveil/laws.FnExactTableOk", spec := "fnExactTableOk", apart := false }
def FnExactTableOkSaid : Prop := fnExactTableOkRow.holds Try.pinned (OpenSpec.ofChange fnExactTableOkSpec)

/-- ITS FALSE NEIGHBOUR: 'it returns false'. Refute it at one input. -/
def fnExactTableOkWrong : ChangeSpec := { name := "fnExactTableOk", fn := fun _ => fun
  | [d] => { results := [.lit (.bool false)], args := [d] }
  | _ => none }
def FnExactTableOkWrongFalsely : Prop := fnExactTableOkRow.holds Try.pinned (OpenSpec.ofChange fnExactTableOkWrong)

/-- 'laws.FnExactPairAsk': WHATEVER THE INPUT: true; the input reads as it did. -/
def fnExactPairAskSpec : ChangeSpec := { name := "fnExactPairAsk", fn := fun _ => fun
  | [d1, d2] => { results := [.lit (.bool true)], args := [d1, d2] }
  | _ => none }
def fnExactPairAskRow : OpenClaim := { program := "ytbabkaofhhaneaa", sum := "b95a41fa6fa4222a160e9c14ca8b46fd6c65e56947dc82496c630a40c89d29e2", func := "loop.example/underveil/laws.FnExactPairAsk", spec := "fnExactPairAsk", apart := false }
def FnExactPairAskSaid : Prop := fnExactPairAskRow.holds Try.pinned (OpenSpec.ofChange fnExactPairAskSpec)

/-- ITS FALSE NEIGHBOUR: 'it returns false'. Refute it at one input. -/
def fnExactPairAskWrong : ChangeSpec := { name := "fnExactPairAsk", fn := fun _ => fun
  | [d1, d2] => { results := [.lit (.bool false)], args := [d1, d2] }
  | _ => none }
def FnExactPairAskWrongFalsely : Prop := fnExactPairAskRow.holds Try.pinned (OpenSpec.ofChange fnExactPairAskWrong)

/-- 'laws.FnExactPairAnswer': WHATEVER THE INPUT: true; the input reads as it did. -/
def fnExactPairAnswerSpec : ChangeSpec := { name := "fnExactPairAnswer", fn := fun _ => fun
  | [d1, d2] => { results := [.lit (.bool true)], args := [d1, d2] }
  | _ => none }
def fnExactPairAnswerRow : OpenClaim := { program := "ytbabkaofhhaneaa", sum := "b95a41fa6fa4222a160e9c14ca8b46fd6c65e56947dc82496c630a40c89d29e2", func := "loop.example/underveil/laws.FnExactPairAnswer", spec := "fnExactPairAnswer", unfollowed := true, recurses := true, apart := false }
def FnExactPairAnswerSaid : Prop := fnExactPairAnswerRow.holds Try.pinned (OpenSpec.ofChange fnExactPairAnswerSpec)

/-- ITS FALSE NEIGHBOUR: 'it returns false'. Refute it at one input. -/
def fnExactPairAnswerWrong : ChangeSpec := { name := "fnExactPairAnswer", fn := fun _ => fun
  | [d1, d2] => { results := [.lit (.bool false)], args := [d1, d2] }
  | _ => none }
def FnExactPairAnswerWrongFalsely : Prop := fnExactPairAnswerRow.holds Try.pinned (OpenSpec.ofChange fnExactPairAnswerWrong)

/-- 'laws.FnExactPairTake': WHATEVER THE INPUT: true; the input reads as it did. -/
def fnExactPairTakeSpec : ChangeSpec := { name := "fnExactPairTake", fn := fun _ => fun
  | [d1, d2, d3, d4] => { results := [.lit (.bool true)], args := [d1, d2, d3, d4] }
  | _ => none }
def fnExactPairTakeRow : OpenClaim := { program := "ytbabkaofhhaneaa", sum := "b95a41fa6fa4222a160e9c14ca8b46fd6c65e56947dc82496c630a40c89d29e2", func := "loop.example/underveil/laws.FnExactPairTake", spec := "fnExactPairTake", apart := false }
def FnExactPairTakeSaid : Prop := fnExactPairTakeRow.holds Try.pinned (OpenSpec.ofChange fnExactPairTakeSpec)

/-- ITS FALSE NEIGHBOUR: 'it returns false'. Refute it at one input. -/
def fnExactPairTakeWrong : ChangeSpec := { name := "fnExactPairTake", fn := fun _ => fun
  | [d1, d2, d3, d4] => { results := [.lit (.bool false)], args := [d1, d2, d3, d4] }
  | _ => none }
def FnExactPairTakeWrongFalsely : Prop := fnExactPairTakeRow.holds Try.pinned (OpenSpec.ofChange fnExactPairTakeWrong)

/-- 'laws.FnExactManyAsk': WHATEVER THE INPUT: true; the input reads as it did. -/
def fnExactManyAskSpec : ChangeSpec := { name := "fnExactManyAsk", fn := fun _ => fun
  | [d1, d2, d3] => { results := [.lit (.bool true)], args := [d1, d2, d3] }
  | _ => none }
def fnExactManyAskRow : OpenClaim := { program := "ytbabkaofhhaneaa", sum := "b95a41fa6fa4222a160e9c14ca8b46fd6c65e56947dc82496c630a40c89d29e2", func := "loop.example/underveil/laws.FnExactManyAsk", spec := "fnExactManyAsk", unfollowed := true, recurses := true, apart := false }
def FnExactManyAskSaid : Prop := fnExactManyAskRow.holds Try.pinned (OpenSpec.ofChange fnExactManyAskSpec)

/-- ITS FALSE NEIGHBOUR: 'it returns false'. Refute it at one input. -/
def fnExactManyAskWrong : ChangeSpec := { name := "fnExactManyAsk", fn := fun _ => fun
  | [d1, d2, d3] => { results := [.lit (.bool false)], args := [d1, d2, d3] }
  | _ => none }
def FnExactManyAskWrongFalsely : Prop := fnExactManyAskRow.holds Try.pinned (OpenSpec.ofChange fnExactManyAskWrong)

/-- 'laws.FnExactManyAnswer': WHATEVER THE INPUT: true; the input reads as it did. -/
def fnExactManyAnswerSpec : ChangeSpec := { name := "fnExactManyAnswer", fn := fun _ => fun
  | [d1, d2] => { results := [.lit (.bool true)], args := [d1, d2] }
  | _ => none }
def fnExactManyAnswerRow : OpenClaim := { program := "ytbabkaofhhaneaa", sum := "b95a41fa6fa4222a160e9c14ca8b46fd6c65e56947dc82496c630a40c89d29e2", func := "loop.example/underveil/laws.FnExactManyAnswer", spec := "fnExactManyAnswer", unfollowed := true, recurses := true, apart := false }
def FnExactManyAnswerSaid : Prop := fnExactManyAnswerRow.holds Try.pinned (OpenSpec.ofChange fnExactManyAnswerSpec)

/-- ITS FALSE NEIGHBOUR: 'it returns false'. Refute it at one input. -/
def fnExactManyAnswerWrong : ChangeSpec := { name := "fnExactManyAnswer", fn := fun _ => fun
  | [d1, d2] => { results := [.lit (.bool false)], args := [d1, d2] }
  | _ => none }
def FnExactManyAnswerWrongFalsely : Prop := fnExactManyAnswerRow.holds Try.pinned (OpenSpec.ofChange fnExactManyAnswerWrong)

/-- 'laws.FnExactManyTake': WHATEVER THE INPUT: true; the input reads as it did. -/
def fnExactManyTakeSpec : ChangeSpec := { name := "fnExactManyTake", fn := fun _ => fun
  | [d] => { results := [.lit (.bool true)], args := [d] }
  | _ => none }
def fnExactManyTakeRow : OpenClaim := { program := "ytbabkaofhhaneaa", sum := "b95a41fa6fa4222a160e9c14ca8b46fd6c65e56947dc82496c630a40c89d29e2", func := "loop.example/underveil/laws.FnExactManyTake", spec := "fnExactManyTake", unfollowed := true, recurses := true, apart := false }
def FnExactManyTakeSaid : Prop := fnExactManyTakeRow.holds Try.pinned (OpenSpec.ofChange fnExactManyTakeSpec)

/-- ITS FALSE NEIGHBOUR: 'it returns false'. Refute it at one input. -/
def fnExactManyTakeWrong : ChangeSpec := { name := "fnExactManyTake", fn := fun _ => fun
  | [d] => { results := [.lit (.bool false)], args := [d] }
  | _ => none }
def FnExactManyTakeWrongFalsely : Prop := fnExactManyTakeRow.holds Try.pinned (OpenSpec.ofChange fnExactManyTakeWrong)

/-- 'laws.FnExactManyExplain': WHATEVER THE INPUT: true; the input reads as it did. -/
def fnExactManyExplainSpec : ChangeSpec := { name := "fnExactManyExplain", fn := fun _ => fun
  | [d1, d2] => { results := [.lit (.bool true)], args := [d1, d2] }
  | _ => none }
def fnExactManyExplainRow : OpenClaim := { program := "ytbabkaofhhaneaa", sum := "b95a41fa6fa4222a160e9c14ca8b46fd6c65e56947dc82496c630a40c89d29e2", func := "loop.example/underveil/laws.FnExactManyExplain", spec := "fnExactManyExplain", apart := false }
def FnExactManyExplainSaid : Prop := fnExactManyExplainRow.holds Try.pinned (OpenSpec.ofChange fnExactManyExplainSpec)

/-- ITS FALSE NEIGHBOUR: 'it returns false'. Refute it at one input. -/
def fnExactManyExplainWrong : ChangeSpec := { name := "fnExactManyExplain", fn := fun _ => fun
  | [d1, d2] => { results := [.lit (.bool false)], args := [d1, d2] }
  | _ => none }
def FnExactManyExplainWrongFalsely : Prop := fnExactManyExplainRow.holds Try.pinned (OpenSpec.ofChange fnExactManyExplainWrong)

/-- 'laws.FnPairAsk': WHATEVER THE INPUT: true; the input reads as it did. -/
def fnPairAskSpec : ChangeSpec := { name := "fnPairAsk", fn := fun _ => fun
  | [d] => { results := [.lit (.bool true)], args := [d] }
  | _ => none }
def fnPairAskRow : OpenClaim := { program := "ytbabkaofhhaneaa", sum := "b95a41fa6fa4222a160e9c14ca8b46fd6c65e56947dc82496c630a40c89d29e2", func := "loop.example/underveil/laws.FnPairAsk", spec := "fnPairAsk", apart := false }
def FnPairAskSaid : Prop := fnPairAskRow.holds Try.pinned (OpenSpec.ofChange fnPairAskSpec)

/-- ITS FALSE NEIGHBOUR: 'it returns false'. Refute it at one input. -/
def fnPairAskWrong : ChangeSpec := { name := "fnPairAsk", fn := fun _ => fun
  | [d] => { results := [.lit (.bool false)], args := [d] }
  | _ => none }
def FnPairAskWrongFalsely : Prop := fnPairAskRow.holds Try.pinned (OpenSpec.ofChange fnPairAskWrong)

/-- 'laws.FnPairAnswer': WHATEVER THE INPUT: true; the input reads as it did. -/
def fnPairAnswerSpec : ChangeSpec := { name := "fnPairAnswer", fn := fun _ => fun
  | [d] => { results := [.lit (.bool true)], args := [d] }
  | _ => none }
def fnPairAnswerRow : OpenClaim := { program := "ytbabkaofhhaneaa", sum := "b95a41fa6fa4222a160e9c14ca8b46fd6c65e56947dc82496c630a40c89d29e2", func := "loop.example/underveil/laws.FnPairAnswer", spec := "fnPairAnswer", unfollowed := true, recurses := true, apart := false }
def FnPairAnswerSaid : Prop := fnPairAnswerRow.holds Try.pinned (OpenSpec.ofChange fnPairAnswerSpec)

/-- ITS FALSE NEIGHBOUR: 'it returns false'. Refute it at one input. -/
def fnPairAnswerWrong : ChangeSpec := { name := "fnPairAnswer", fn := fun _ => fun
  | [d] => { results := [.lit (.bool false)], args := [d] }
  | _ => none }
def FnPairAnswerWrongFalsely : Prop := fnPairAnswerRow.holds Try.pinned (OpenSpec.ofChange fnPairAnswerWrong)

/-- 'laws.FnPairTake': WHATEVER THE INPUT: true; the input reads as it did. -/
def fnPairTakeSpec : ChangeSpec := { name := "fnPairTake", fn := fun _ => fun
  | [d] => { results := [.lit (.bool true)], args := [d] }
  | _ => none }
def fnPairTakeRow : OpenClaim := { program := "ytbabkaofhhaneaa", sum := "b95a41fa6fa4222a160e9c14ca8b46fd6c65e56947dc82496c630a40c89d29e2", func := "loop.example/underveil/laws.FnPairTake", spec := "fnPairTake", apart := false }
def FnPairTakeSaid : Prop := fnPairTakeRow.holds Try.pinned (OpenSpec.ofChange fnPairTakeSpec)

/-- ITS FALSE NEIGHBOUR: 'it returns false'. Refute it at one input. -/
def fnPairTakeWrong : ChangeSpec := { name := "fnPairTake", fn := fun _ => fun
  | [d] => { results := [.lit (.bool false)], args := [d] }
  | _ => none }
def FnPairTakeWrongFalsely : Prop := fnPairTakeRow.holds Try.pinned (OpenSpec.ofChange fnPairTakeWrong)

/-- 'laws.FnPairFound': WHATEVER THE INPUT: true; the input reads as it did. -/
def fnPairFoundSpec : ChangeSpec := { name := "fnPairFound", fn := fun _ => fun
  | [d1, d2] => { results := [.lit (.bool true)], args := [d1, d2] }
  | _ => none }
def fnPairFoundRow : OpenClaim := { program := "ytbabkaofhhaneaa", sum := "b95a41fa6fa4222a160e9c14ca8b46fd6c65e56947dc82496c630a40c89d29e2", func := "loop.example/underveil/laws.FnPairFound", spec := "fnPairFound", unfollowed := true, recurses := true, apart := false }
def FnPairFoundSaid : Prop := fnPairFoundRow.holds Try.pinned (OpenSpec.ofChange fnPairFoundSpec)

/-- ITS FALSE NEIGHBOUR: 'it returns false'. Refute it at one input. -/
def fnPairFoundWrong : ChangeSpec := { name := "fnPairFound", fn := fun _ => fun
  | [d1, d2] => { results := [.lit (.bool false)], args := [d1, d2] }
  | _ => none }
def FnPairFoundWrongFalsely : Prop := fnPairFoundRow.holds Try.pinned (OpenSpec.ofChange fnPairFoundWrong)

/-- 'laws.FnManyAnswer': WHATEVER THE INPUT: true; the input reads as it did. -/
def fnManyAnswerSpec : ChangeSpec := { name := "fnManyAnswer", fn := fun _ => fun
  | [d] => { results := [.lit (.bool true)], args := [d] }
  | _ => none }
def fnManyAnswerRow : OpenClaim := { program := "ytbabkaofhhaneaa", sum := "b95a41fa6fa4222a160e9c14ca8b46fd6c65e56947dc82496c630a40c89d29e2", func := "loop.example/underveil/laws.FnManyAnswer", spec := "fnManyAnswer", unfollowed := true, recurses := true, apart := false }
def FnManyAnswerSaid : Prop := fnManyAnswerRow.holds Try.pinned (OpenSpec.ofChange fnManyAnswerSpec)

/-- ITS FALSE NEIGHBOUR: 'it returns false'. Refute it at one input. -/
def fnManyAnswerWrong : ChangeSpec := { name := "fnManyAnswer", fn := fun _ => fun
  | [d] => { results := [.lit (.bool false)], args := [d] }
  | _ => none }
def FnManyAnswerWrongFalsely : Prop := fnManyAnswerRow.holds Try.pinned (OpenSpec.ofChange fnManyAnswerWrong)

/- THE SECOND FORM. 'bulk': how many values and letters a reading holds, each counted each time it is reached (what is shared counts as often as it is met; a slice's spare places count too). A statement '..UptoSaid' is the law's where the arguments, and the package variables that the reading takes, are together of bulk at most 1048576: NARROWER than '..Said'. Prove '..Said' where nothing that the law and all that it calls make is longer than what came in: it says more and counts as full. Else prove '..UptoSaid'. A law counts once. -/
mutual
def uptoBulk {H : Type} : DataW H → Nat
  | .lit (.string bytes) => bytes.length + 1
  | .lit _ => 1
  | .nil => 1
  | .ptr d => uptoBulk d + 1
  | .slice elems spare => uptoBulkAll elems + uptoBulkAll spare + 1
  | .agg parts => uptoBulkAll parts + 1
  | .iface _ d => uptoBulk d + 1
  | .map entries => uptoBulkEntries entries + 1
  | .held _ => 1
def uptoBulkAll {H : Type} : List (DataW H) → Nat
  | [] => 0
  | d :: r => uptoBulk d + uptoBulkAll r
def uptoBulkEntries {H : Type} : List (Lit × DataW H) → Nat
  | [] => 0
  | x :: r => uptoBulkEntry x + uptoBulkEntries r
def uptoBulkEntry {H : Type} : Lit × DataW H → Nat
  | (.string bytes, d) => bytes.length + uptoBulk d + 1
  | (_, d) => uptoBulk d + 1
 end
def uptoSmall : (H : Type) → List (DataW H) → Bool := fun _ ds => decide (uptoBulkAll ds ≤ 1048576)
def OpenSpec.upto (s : _root_.Go.ChangeSpec) : _root_.Go.OpenSpec := { _root_.Go.OpenSpec.ofChange s with cond := some uptoSmall }

/-- 'laws.FnExactTableOk', WHERE WHAT IT READS IS OF BULK AT MOST 1048576: true; the input reads as it did. -/
def fnExactTableOkUptoRow : OpenClaim := { program := "ytbabkaofhhaneaa", sum := "b95a41fa6fa4222a160e9c14ca8b46fd6c65e56947dc82496c630a40c89d29e2", func := "loop.example/underveil/laws.FnExactTableOk", spec := "fnExactTableOk", apart := false, narrowed := true }
def FnExactTableOkUptoSaid : Prop := fnExactTableOkUptoRow.holds Try.pinned (OpenSpec.upto fnExactTableOkSpec)

/-- 'laws.FnExactPairAsk', WHERE WHAT IT READS IS OF BULK AT MOST 1048576: true; the input reads as it did. -/
def fnExactPairAskUptoRow : OpenClaim := { program := "ytbabkaofhhaneaa", sum := "b95a41fa6fa4222a160e9c14ca8b46fd6c65e56947dc82496c630a40c89d29e2", func := "loop.example/underveil/laws.FnExactPairAsk", spec := "fnExactPairAsk", apart := false, narrowed := true }
def FnExactPairAskUptoSaid : Prop := fnExactPairAskUptoRow.holds Try.pinned (OpenSpec.upto fnExactPairAskSpec)

/-- 'laws.FnExactPairAnswer', WHERE WHAT IT READS IS OF BULK AT MOST 1048576: true; the input reads as it did. -/
def fnExactPairAnswerUptoRow : OpenClaim := { program := "ytbabkaofhhaneaa", sum := "b95a41fa6fa4222a160e9c14ca8b46fd6c65e56947dc82496c630a40c89d29e2", func := "loop.example/underveil/laws.FnExactPairAnswer", spec := "fnExactPairAnswer", unfollowed := true, recurses := true, apart := false, narrowed := true }
def FnExactPairAnswerUptoSaid : Prop := fnExactPairAnswerUptoRow.holds Try.pinned (OpenSpec.upto fnExactPairAnswerSpec)

/-- 'laws.FnExactPairTake', WHERE WHAT IT READS IS OF BULK AT MOST 1048576: true; the input reads as it did. -/
def fnExactPairTakeUptoRow : OpenClaim := { program := "ytbabkaofhhaneaa", sum := "b95a41fa6fa4222a160e9c14ca8b46fd6c65e56947dc82496c630a40c89d29e2", func := "loop.example/underveil/laws.FnExactPairTake", spec := "fnExactPairTake", apart := false, narrowed := true }
def FnExactPairTakeUptoSaid : Prop := fnExactPairTakeUptoRow.holds Try.pinned (OpenSpec.upto fnExactPairTakeSpec)

/-- 'laws.FnExactManyAsk', WHERE WHAT IT READS IS OF BULK AT MOST 1048576: true; the input reads as it did. -/
def fnExactManyAskUptoRow : OpenClaim := { program := "ytbabkaofhhaneaa", sum := "b95a41fa6fa4222a160e9c14ca8b46fd6c65e56947dc82496c630a40c89d29e2", func := "loop.example/underveil/laws.FnExactManyAsk", spec := "fnExactManyAsk", unfollowed := true, recurses := true, apart := false, narrowed := true }
def FnExactManyAskUptoSaid : Prop := fnExactManyAskUptoRow.holds Try.pinned (OpenSpec.upto fnExactManyAskSpec)

/-- 'laws.FnExactManyAnswer', WHERE WHAT IT READS IS OF BULK AT MOST 1048576: true; the input reads as it did. -/
def fnExactManyAnswerUptoRow : OpenClaim := { program := "ytbabkaofhhaneaa", sum := "b95a41fa6fa4222a160e9c14ca8b46fd6c65e56947dc82496c630a40c89d29e2", func := "loop.example/underveil/laws.FnExactManyAnswer", spec := "fnExactManyAnswer", unfollowed := true, recurses := true, apart := false, narrowed := true }
def FnExactManyAnswerUptoSaid : Prop := fnExactManyAnswerUptoRow.holds Try.pinned (OpenSpec.upto fnExactManyAnswerSpec)

/-- 'laws.FnExactManyTake', WHERE WHAT IT READS IS OF BULK AT MOST 1048576: true; the input reads as it did. -/
def fnExactManyTakeUptoRow : OpenClaim := { program := "ytbabkaofhhaneaa", sum := "b95a41fa6fa4222a160e9c14ca8b46fd6c65e56947dc82496c630a40c89d29e2", func := "loop.example/underveil/laws.FnExactManyTake", spec := "fnExactManyTake", unfollowed := true, recurses := true, apart := false, narrowed := true }
def FnExactManyTakeUptoSaid : Prop := fnExactManyTakeUptoRow.holds Try.pinned (OpenSpec.upto fnExactManyTakeSpec)

/-- 'laws.FnExactManyExplain', WHERE WHAT IT READS IS OF BULK AT MOST 1048576: true; the input reads as it did. -/
def fnExactManyExplainUptoRow : OpenClaim := { program := "ytbabkaofhhaneaa", sum := "b95a41fa6fa4222a160e9c14ca8b46fd6c65e56947dc82496c630a40c89d29e2", func := "loop.example/underveil/laws.FnExactManyExplain", spec := "fnExactManyExplain", apart := false, narrowed := true }
def FnExactManyExplainUptoSaid : Prop := fnExactManyExplainUptoRow.holds Try.pinned (OpenSpec.upto fnExactManyExplainSpec)

/-- 'laws.FnPairAsk', WHERE WHAT IT READS IS OF BULK AT MOST 1048576: true; the input reads as it did. -/
def fnPairAskUptoRow : OpenClaim := { program := "ytbabkaofhhaneaa", sum := "b95a41fa6fa4222a160e9c14ca8b46fd6c65e56947dc82496c630a40c89d29e2", func := "loop.example/underveil/laws.FnPairAsk", spec := "fnPairAsk", apart := false, narrowed := true }
def FnPairAskUptoSaid : Prop := fnPairAskUptoRow.holds Try.pinned (OpenSpec.upto fnPairAskSpec)

/-- 'laws.FnPairAnswer', WHERE WHAT IT READS IS OF BULK AT MOST 1048576: true; the input reads as it did. -/
def fnPairAnswerUptoRow : OpenClaim := { program := "ytbabkaofhhaneaa", sum := "b95a41fa6fa4222a160e9c14ca8b46fd6c65e56947dc82496c630a40c89d29e2", func := "loop.example/underveil/laws.FnPairAnswer", spec := "fnPairAnswer", unfollowed := true, recurses := true, apart := false, narrowed := true }
def FnPairAnswerUptoSaid : Prop := fnPairAnswerUptoRow.holds Try.pinned (OpenSpec.upto fnPairAnswerSpec)

/-- 'laws.FnPairTake', WHERE WHAT IT READS IS OF BULK AT MOST 1048576: true; the input reads as it did. -/
def fnPairTakeUptoRow : OpenClaim := { program := "ytbabkaofhhaneaa", sum := "b95a41fa6fa4222a160e9c14ca8b46fd6c65e56947dc82496c630a40c89d29e2", func := "loop.example/underveil/laws.FnPairTake", spec := "fnPairTake", apart := false, narrowed := true }
def FnPairTakeUptoSaid : Prop := fnPairTakeUptoRow.holds Try.pinned (OpenSpec.upto fnPairTakeSpec)

/-- 'laws.FnPairFound', WHERE WHAT IT READS IS OF BULK AT MOST 1048576: true; the input reads as it did. -/
def fnPairFoundUptoRow : OpenClaim := { program := "ytbabkaofhhaneaa", sum := "b95a41fa6fa4222a160e9c14ca8b46fd6c65e56947dc82496c630a40c89d29e2", func := "loop.example/underveil/laws.FnPairFound", spec := "fnPairFound", unfollowed := true, recurses := true, apart := false, narrowed := true }
def FnPairFoundUptoSaid : Prop := fnPairFoundUptoRow.holds Try.pinned (OpenSpec.upto fnPairFoundSpec)

/-- 'laws.FnManyAnswer', WHERE WHAT IT READS IS OF BULK AT MOST 1048576: true; the input reads as it did. -/
def fnManyAnswerUptoRow : OpenClaim := { program := "ytbabkaofhhaneaa", sum := "b95a41fa6fa4222a160e9c14ca8b46fd6c65e56947dc82496c630a40c89d29e2", func := "loop.example/underveil/laws.FnManyAnswer", spec := "fnManyAnswer", unfollowed := true, recurses := true, apart := false, narrowed := true }
def FnManyAnswerUptoSaid : Prop := fnManyAnswerUptoRow.holds Try.pinned (OpenSpec.upto fnManyAnswerSpec)

end Rows
end Go.Proofs.Ytbabkaofhhaneaa

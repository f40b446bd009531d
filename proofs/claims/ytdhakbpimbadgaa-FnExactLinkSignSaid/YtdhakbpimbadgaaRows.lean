/-
  No cell of these rows narrows 'for every input' (looked for: loops, veiled, ifaces, maps, wideKeys, modest, calm, conditions, laid).
  DERIVED. THE GIVEN ROWS OF THIS SEAT. 7 by the template 'for every input the law returns true; each argument reads behind the call as it read before'; 0 by the template 'total and deterministic' (their statements: YtdhakbpimbadgaaTotals.lean).
  GIVEN WITH THE SEED: the statements are not yours to turn. If you find one false, say at which input.
  Laid BY PROGRAM, IN A SANDBOX (cutbox-rows.mjs): the forced cells as the released guide's own fill.sh prints them over the translation 0618328bc59fde14… (all of the seat's roots in one cut). By AI agents, Wed Nov 11 2026. No macro, syntax, notation, axiom, sorry.
-/
import Derived.Test.YtdhakbpimbadgaaChecked
import GoSem.Claim
import GoSem.ClaimJoined
import GoSem.ClaimMapViews
import Derived.JoinedTies
import Derived.KernelRfl
namespace Go.Proofs.Ytdhakbpimbadgaa
/- THE CELL 'sum', in the pinned program and in every row, IS THE sha256 OF THE DUMP (.gsa) THAT YtdhakbpimbadgaaProg.lean LOADS. Nothing in Lean hashes anything: it is a label: what it is worth is what the hold of that sum in a sandbox is worth. -/
noncomputable def Try.pinned : Pinned := { name := "ytdhakbpimbadgaa", sum := "0618328bc59fde148059531b962e977520f4752e6306ed533788b7313dd6c6a9", checked := Try.checked }
namespace Rows
def none {H : Type} : Left H := { results := [], args := [] }

/-- 'laws.FnExactEitherMake': WHATEVER THE INPUT: true; the input reads as it did. -/
def fnExactEitherMakeSpec : ChangeSpec := { name := "fnExactEitherMake", fn := fun _ => fun
  | [d1, d2, d3, d4, d5] => { results := [.lit (.bool true)], args := [d1, d2, d3, d4, d5] }
  | _ => none }
def fnExactEitherMakeRow : OpenClaim := { program := "ytdhakbpimbadgaa", sum := "0618328bc59fde148059531b962e977520f4752e6306ed533788b7313dd6c6a9", func := "loop.example/underveil/laws.FnExactEitherMake", spec := "fnExactEitherMake", unfollowed := true, recurses := true, apart := false }
def FnExactEitherMakeSaid : Prop := fnExactEitherMakeRow.holds Try.pinned (OpenSpec.ofChange fnExactEitherMakeSpec)

/-- ITS FALSE NEIGHBOUR: 'it returns false'. Refute it at one input. -/
def fnExactEitherMakeWrong : ChangeSpec := { name := "fnExactEitherMake", fn := fun _ => fun
  | [d1, d2, d3, d4, d5] => { results := [.lit (.bool false)], args := [d1, d2, d3, d4, d5] }
  | _ => none }
def FnExactEitherMakeWrongFalsely : Prop := fnExactEitherMakeRow.holds Try.pinned (OpenSpec.ofChange fnExactEitherMakeWrong)

/-- 'laws.FnExactRingSign': WHATEVER THE INPUT: true; the input reads as it did. -/
def fnExactRingSignSpec : ChangeSpec := { name := "fnExactRingSign", fn := fun _ => fun
  | [d1, d2, d3, d4, d5] => { results := [.lit (.bool true)], args := [d1, d2, d3, d4, d5] }
  | _ => none }
def fnExactRingSignRow : OpenClaim := { program := "ytdhakbpimbadgaa", sum := "0618328bc59fde148059531b962e977520f4752e6306ed533788b7313dd6c6a9", func := "loop.example/underveil/laws.FnExactRingSign", spec := "fnExactRingSign", unfollowed := true, recurses := true, apart := false }
def FnExactRingSignSaid : Prop := fnExactRingSignRow.holds Try.pinned (OpenSpec.ofChange fnExactRingSignSpec)

/-- ITS FALSE NEIGHBOUR: 'it returns false'. Refute it at one input. -/
def fnExactRingSignWrong : ChangeSpec := { name := "fnExactRingSign", fn := fun _ => fun
  | [d1, d2, d3, d4, d5] => { results := [.lit (.bool false)], args := [d1, d2, d3, d4, d5] }
  | _ => none }
def FnExactRingSignWrongFalsely : Prop := fnExactRingSignRow.holds Try.pinned (OpenSpec.ofChange fnExactRingSignWrong)

/-- 'laws.FnExactLinkSign': WHATEVER THE INPUT: true; the input reads as it did. -/
def fnExactLinkSignSpec : ChangeSpec := { name := "fnExactLinkSign", fn := fun _ => fun
  | [d1, d2, d3, d4, d5] => { results := [.lit (.bool true)], args := [d1, d2, d3, d4, d5] }
  | _ => none }
def fnExactLinkSignRow : OpenClaim := { program := "ytdhakbpimbadgaa", sum := "0618328bc59fde148059531b962e977520f4752e6306ed533788b7313dd6c6a9", func := "loop.example/underveil/laws.FnExactLinkSign", spec := "fnExactLinkSign", unfollowed := true, recurses := true, apart := false }
def FnExactLinkSignSaid : Prop := fnExactLinkSignRow.holds Try.pinned (OpenSpec.ofChange fnExactLinkSignSpec)

/-- ITS FALSE NEIGHBOUR: 'it returns false'. Refute it at one input. -/
def fnExactLinkSignWrong : ChangeSpec := { name := "fnExactLinkSign", fn := fun _ => fun
  | [d1, d2, d3, d4, d5] => { results := [.lit (.bool false)], args := [d1, d2, d3, d4, d5] }
  | _ => none }
def FnExactLinkSignWrongFalsely : Prop := fnExactLinkSignRow.holds Try.pinned (OpenSpec.ofChange fnExactLinkSignWrong)

/-- 'laws.FnEitherMake': WHATEVER THE INPUT: true; the input reads as it did. -/
def fnEitherMakeSpec : ChangeSpec := { name := "fnEitherMake", fn := fun _ => fun
  | [d] => { results := [.lit (.bool true)], args := [d] }
  | _ => none }
def fnEitherMakeRow : OpenClaim := { program := "ytdhakbpimbadgaa", sum := "0618328bc59fde148059531b962e977520f4752e6306ed533788b7313dd6c6a9", func := "loop.example/underveil/laws.FnEitherMake", spec := "fnEitherMake", unfollowed := true, recurses := true, apart := false }
def FnEitherMakeSaid : Prop := fnEitherMakeRow.holds Try.pinned (OpenSpec.ofChange fnEitherMakeSpec)

/-- ITS FALSE NEIGHBOUR: 'it returns false'. Refute it at one input. -/
def fnEitherMakeWrong : ChangeSpec := { name := "fnEitherMake", fn := fun _ => fun
  | [d] => { results := [.lit (.bool false)], args := [d] }
  | _ => none }
def FnEitherMakeWrongFalsely : Prop := fnEitherMakeRow.holds Try.pinned (OpenSpec.ofChange fnEitherMakeWrong)

/-- 'laws.FnEitherGood': WHATEVER THE INPUT: true; the input reads as it did. -/
def fnEitherGoodSpec : ChangeSpec := { name := "fnEitherGood", fn := fun _ => fun
  | [d] => { results := [.lit (.bool true)], args := [d] }
  | _ => none }
def fnEitherGoodRow : OpenClaim := { program := "ytdhakbpimbadgaa", sum := "0618328bc59fde148059531b962e977520f4752e6306ed533788b7313dd6c6a9", func := "loop.example/underveil/laws.FnEitherGood", spec := "fnEitherGood", unfollowed := true, recurses := true, apart := false }
def FnEitherGoodSaid : Prop := fnEitherGoodRow.holds Try.pinned (OpenSpec.ofChange fnEitherGoodSpec)

/-- ITS FALSE NEIGHBOUR: 'it returns false'. Refute it at one input. -/
def fnEitherGoodWrong : ChangeSpec := { name := "fnEitherGood", fn := fun _ => fun
  | [d] => { results := [.lit (.bool false)], args := [d] }
  | _ => none }
def FnEitherGoodWrongFalsely : Prop := fnEitherGoodRow.holds Try.pinned (OpenSpec.ofChange fnEitherGoodWrong)

/-- 'laws.FnRingSign': WHATEVER THE INPUT: true; the input reads as it did. -/
def fnRingSignSpec : ChangeSpec := { name := "fnRingSign", fn := fun _ => fun
  | [d] => { results := [.lit (.bool true)], args := [d] }
  | _ => none }
def fnRingSignRow : OpenClaim := { program := "ytdhakbpimbadgaa", sum := "0618328bc59fde148059531b962e977520f4752e6306ed533788b7313dd6c6a9", func := "loop.example/underveil/laws.FnRingSign", spec := "fnRingSign", unfollowed := true, recurses := true, apart := false }
def FnRingSignSaid : Prop := fnRingSignRow.holds Try.pinned (OpenSpec.ofChange fnRingSignSpec)

/-- ITS FALSE NEIGHBOUR: 'it returns false'. Refute it at one input. -/
def fnRingSignWrong : ChangeSpec := { name := "fnRingSign", fn := fun _ => fun
  | [d] => { results := [.lit (.bool false)], args := [d] }
  | _ => none }
def FnRingSignWrongFalsely : Prop := fnRingSignRow.holds Try.pinned (OpenSpec.ofChange fnRingSignWrong)

/-- 'laws.FnLinkSign': WHATEVER THE INPUT: true; the input reads as it did. -/
def fnLinkSignSpec : ChangeSpec := { name := "fnLinkSign", fn := fun _ => fun
  | [d] => { results := [.lit (.bool true)], args := [d] }
  | _ => none }
def fnLinkSignRow : OpenClaim := { program := "ytdhakbpimbadgaa", sum := "0618328bc59fde148059531b962e977520f4752e6306ed533788b7313dd6c6a9", func := "loop.example/underveil/laws.FnLinkSign", spec := "fnLinkSign", unfollowed := true, recurses := true, apart := false }
def FnLinkSignSaid : Prop := fnLinkSignRow.holds Try.pinned (OpenSpec.ofChange fnLinkSignSpec)

/-- ITS FALSE NEIGHBOUR: 'it returns false'. Refute it at one input. -/
def fnLinkSignWrong : ChangeSpec := { name := "fnLinkSign", fn := fun _ => fun
  | [d] => { results := [.lit (.bool false)], args := [d] }
  | _ => none }
def FnLinkSignWrongFalsely : Prop := fnLinkSignRow.holds Try.pinned (OpenSpec.ofChange fnLinkSignWrong)

/- THE SECOND FORM. 'bulk': how many values and letters a reading holds, each counted each time it is reached (what is shared counts as often as it is met; a slice's spare places count too). A statement '..UptoSaid' is the law's where the arguments, and the package variables that the reading takes, are together of bulk at most 1048576: NARROWER than '..Said'. Prove '..Said' where nothing that the law and all that it calls make is longer than what came in: it says more and counts as full. Else prove '..UptoSaid'. A law counts once. -/
mutual
def uptoBulk {H : Type} : DataW H → Nat
  | .lit (.string bytes) => bytes.length + 1
  | .lit _ => 1
  | .nil => 1
  | .ptr d => uptoBulk d + 1
  | .slice elems spare => uptoBulkAll elems + uptoBulkAll spare + 1
  | .agg parts => uptoBulkAll parts + 1
  | .iface _ d => uptoBulk d + 1
  | .map entries => uptoBulkEntries entries + 1
  | .held _ => 1
def uptoBulkAll {H : Type} : List (DataW H) → Nat
  | [] => 0
  | d :: r => uptoBulk d + uptoBulkAll r
def uptoBulkEntries {H : Type} : List (Lit × DataW H) → Nat
  | [] => 0
  | x :: r => uptoBulkEntry x + uptoBulkEntries r
def uptoBulkEntry {H : Type} : Lit × DataW H → Nat
  | (.string bytes, d) => bytes.length + uptoBulk d + 1
  | (_, d) => uptoBulk d + 1
 end
def uptoSmall : (H : Type) → List (DataW H) → Bool := fun _ ds => decide (uptoBulkAll ds ≤ 1048576)
def OpenSpec.upto (s : _root_.Go.ChangeSpec) : _root_.Go.OpenSpec := { _root_.Go.OpenSpec.ofChange s with cond := some uptoSmall }

/-- 'laws.FnExactEitherMake', WHERE WHAT IT READS IS OF BULK AT MOST 1048576: true; the input reads as it did. -/
def fnExactEitherMakeUptoRow : OpenClaim := { program := "ytdhakbpimbadgaa", sum := "0618328bc59fde148059531b962e977520f4752e6306ed533788b7313dd6c6a9", func := "loop.example/underveil/laws.FnExactEitherMake", spec := "fnExactEitherMake", unfollowed := true, recurses := true, apart := false, narrowed := true }
def FnExactEitherMakeUptoSaid : Prop := fnExactEitherMakeUptoRow.holds Try.pinned (OpenSpec.upto fnExactEitherMakeSpec)

/-- 'laws.FnExactRingSign', WHERE WHAT IT READS IS OF BULK AT MOST 1048576: true; the input reads as it did. -/
def fnExactRingSignUptoRow : OpenClaim := { program := "ytdhakbpimbadgaa", sum := "0618328bc59fde148059531b962e977520f4752e6306ed533788b7313dd6c6a9", func := "loop.example/underveil/laws.FnExactRingSign", spec := "fnExactRingSign", unfollowed := true, recurses := true, apart := false, narrowed := true }
def FnExactRingSignUptoSaid : Prop := fnExactRingSignUptoRow.holds Try.pinned (OpenSpec.upto fnExactRingSignSpec)

/-- 'laws.FnExactLinkSign', WHERE WHAT IT READS IS OF BULK AT MOST 1048576: true; the input reads as it did. -/
def fnExactLinkSignUptoRow : OpenClaim := { program := "ytdhakbpimbadgaa", sum := "0618328bc59fde148059531b962e977520f4752e6306ed533788b7313dd6c6a9", func := "loop.example/underveil/laws.FnExactLinkSign", spec := "fnExactLinkSign", unfollowed := true, recurses := true, apart := false, narrowed := true }
def FnExactLinkSignUptoSaid : Prop := fnExactLinkSignUptoRow.holds Try.pinned (OpenSpec.upto fnExactLinkSignSpec)

/-- 'laws.FnEitherMake', WHERE WHAT IT READS IS OF BULK AT MOST 1048576: true; the input reads as it did. -/
def fnEitherMakeUptoRow : OpenClaim := { program := "ytdhakbpimbadgaa", sum := "0618328bc59fde148059531b962e977520f4752e6306ed533788b7313dd6c6a9", func := "loop.example/underveil/laws.FnEitherMake", spec := "fnEitherMake", unfollowed := true, recurses := true, apart := false, narrowed := true }
def FnEitherMakeUptoSaid : Prop := fnEitherMakeUptoRow.holds Try.pinned (OpenSpec.upto fnEitherMakeSpec)

/-- 'laws.FnEitherGood', WHERE WHAT IT READS IS OF BULK AT MOST 1048576: true; the input reads as it did. -/
def fnEitherGoodUptoRow : OpenClaim := { program := "ytdhakbpimbadgaa", sum := "0618328bc59fde148059531b962e977520f4752e6306ed533788b7313dd6c6a9", func := "loop.example/underveil/laws.FnEitherGood", spec := "fnEitherGood", unfollowed := true, recurses := true, apart := false, narrowed := true }
def FnEitherGoodUptoSaid : Prop := fnEitherGoodUptoRow.holds Try.pinned (OpenSpec.upto fnEitherGoodSpec)

/-- 'laws.FnRingSign', WHERE WHAT IT READS IS OF BULK AT MOST 1048576: true; the input reads as it did. -/
def fnRingSignUptoRow : OpenClaim := { program := "ytdhakbpimbadgaa", sum := "0618328bc59fde148059531b962e977520f4752e6306ed533788b7313dd6c6a9", func := "loop.example/underveil/laws.FnRingSign", spec := "fnRingSign", unfollowed := true, recurses := true, apart := false, narrowed := true }
def FnRingSignUptoSaid : Prop := fnRingSignUptoRow.holds Try.pinned (OpenSpec.upto fnRingSignSpec)

/-- 'laws.FnLinkSign', WHERE WHAT IT READS IS OF BULK AT MOST 1048576: true; the input reads as it did. -/
def fnLinkSignUptoRow : OpenClaim := { program := "ytdhakbpimbadgaa", sum := "0618328bc59fde148059531b962e977520f4752e6306ed533788b7313dd6c6a9", func := "loop.example/underveil/laws.FnLinkSign", spec := "fnLinkSign", unfollowed := true, recurses := true, apart := false, narrowed := true }
def FnLinkSignUptoSaid : Prop := fnLinkSignUptoRow.holds Try.pinned (OpenSpec.upto fnLinkSignSpec)

end Rows
end Go.Proofs.Ytdhakbpimbadgaa

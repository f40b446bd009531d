/-
  No cell of these rows narrows 'for every input' (looked for: loops, veiled, ifaces, maps, wideKeys, modest, calm, conditions, laid).
  DERIVED. THE GIVEN ROWS OF THIS SEAT. 11 by the template 'for every input the law returns true; each argument reads behind the call as it read before'; 0 by the template 'total and deterministic' (their statements: YtjaejgpihonjhaaTotals.lean).
  GIVEN WITH THE SEED: the statements are not yours to turn. If you find one false, say at which input.
  Laid BY PROGRAM, IN A SANDBOX (cutbox-rows.mjs): the forced cells as the released guide's own fill.sh prints them over the translation f9c74e3b025a8d47… (all of the seat's roots in one cut). By AI agents, Wed Nov 11 2026. No macro, syntax, notation, axiom, sorry.
-/
import Derived.Test.YtjaejgpihonjhaaChecked
import GoSem.Claim
import GoSem.ClaimJoined
import GoSem.ClaimMapViews
import Derived.JoinedTies
import Derived.KernelRfl
namespace Go.Proofs.Ytjaejgpihonjhaa
/- THE CELL 'sum', in the pinned program and in every row, IS THE sha256 OF THE DUMP (.gsa) THAT YtjaejgpihonjhaaProg.lean LOADS. Nothing in Lean hashes anything: it is a label: what it is worth is what the hold of that sum in a sandbox is worth. -/
noncomputable def Try.pinned : Pinned := { name := "ytjaejgpihonjhaa", sum := "f9c74e3b025a8d47a7c3e6abb8dd2949a4b37028a5ec9f8b7aac8da3e796a6f0", checked := Try.checked }
namespace Rows
def none {H : Type} : Left H := { results := [], args := [] }

/-- 'laws.FnExactProofMake': WHATEVER THE INPUT: true; the input reads as it did. -/
def fnExactProofMakeSpec : ChangeSpec := { name := "fnExactProofMake", fn := fun _ => fun
  | [d1, d2, d3] => { results := [.lit (.bool true)], args := [d1, d2, d3] }
  | _ => none }
def fnExactProofMakeRow : OpenClaim := { program := "ytjaejgpihonjhaa", sum := "f9c74e3b025a8d47a7c3e6abb8dd2949a4b37028a5ec9f8b7aac8da3e796a6f0", func := "loop.example/underveil/laws.FnExactProofMake", spec := "fnExactProofMake", apart := false }
def FnExactProofMakeSaid : Prop := fnExactProofMakeRow.holds Try.pinned (OpenSpec.ofChange fnExactProofMakeSpec)

/-- ITS FALSE NEIGHBOUR: 'it returns false'. Refute it at one input. -/
def fnExactProofMakeWrong : ChangeSpec := { name := "fnExactProofMake", fn := fun _ => fun
  | [d1, d2, d3] => { results := [.lit (.bool false)], args := [d1, d2, d3] }
  | _ => none }
def FnExactProofMakeWrongFalsely : Prop := fnExactProofMakeRow.holds Try.pinned (OpenSpec.ofChange fnExactProofMakeWrong)

/-- 'laws.FnExactProofGood': WHATEVER THE INPUT: true; the input reads as it did. -/
def fnExactProofGoodSpec : ChangeSpec := { name := "fnExactProofGood", fn := fun _ => fun
  | [d1, d2] => { results := [.lit (.bool true)], args := [d1, d2] }
  | _ => none }
def fnExactProofGoodRow : OpenClaim := { program := "ytjaejgpihonjhaa", sum := "f9c74e3b025a8d47a7c3e6abb8dd2949a4b37028a5ec9f8b7aac8da3e796a6f0", func := "loop.example/underveil/laws.FnExactProofGood", spec := "fnExactProofGood", apart := false }
def FnExactProofGoodSaid : Prop := fnExactProofGoodRow.holds Try.pinned (OpenSpec.ofChange fnExactProofGoodSpec)

/-- ITS FALSE NEIGHBOUR: 'it returns false'. Refute it at one input. -/
def fnExactProofGoodWrong : ChangeSpec := { name := "fnExactProofGood", fn := fun _ => fun
  | [d1, d2] => { results := [.lit (.bool false)], args := [d1, d2] }
  | _ => none }
def FnExactProofGoodWrongFalsely : Prop := fnExactProofGoodRow.holds Try.pinned (OpenSpec.ofChange fnExactProofGoodWrong)

/-- 'laws.FnExactProofSecret': WHATEVER THE INPUT: true; the input reads as it did. -/
def fnExactProofSecretSpec : ChangeSpec := { name := "fnExactProofSecret", fn := fun _ => fun
  | [d1, d2, d3] => { results := [.lit (.bool true)], args := [d1, d2, d3] }
  | _ => none }
def fnExactProofSecretRow : OpenClaim := { program := "ytjaejgpihonjhaa", sum := "f9c74e3b025a8d47a7c3e6abb8dd2949a4b37028a5ec9f8b7aac8da3e796a6f0", func := "loop.example/underveil/laws.FnExactProofSecret", spec := "fnExactProofSecret", apart := false }
def FnExactProofSecretSaid : Prop := fnExactProofSecretRow.holds Try.pinned (OpenSpec.ofChange fnExactProofSecretSpec)

/-- ITS FALSE NEIGHBOUR: 'it returns false'. Refute it at one input. -/
def fnExactProofSecretWrong : ChangeSpec := { name := "fnExactProofSecret", fn := fun _ => fun
  | [d1, d2, d3] => { results := [.lit (.bool false)], args := [d1, d2, d3] }
  | _ => none }
def FnExactProofSecretWrongFalsely : Prop := fnExactProofSecretRow.holds Try.pinned (OpenSpec.ofChange fnExactProofSecretWrong)

/-- 'laws.FnExactProofFeign': WHATEVER THE INPUT: true; the input reads as it did. -/
def fnExactProofFeignSpec : ChangeSpec := { name := "fnExactProofFeign", fn := fun _ => fun
  | [d1, d2, d3] => { results := [.lit (.bool true)], args := [d1, d2, d3] }
  | _ => none }
def fnExactProofFeignRow : OpenClaim := { program := "ytjaejgpihonjhaa", sum := "f9c74e3b025a8d47a7c3e6abb8dd2949a4b37028a5ec9f8b7aac8da3e796a6f0", func := "loop.example/underveil/laws.FnExactProofFeign", spec := "fnExactProofFeign", apart := false }
def FnExactProofFeignSaid : Prop := fnExactProofFeignRow.holds Try.pinned (OpenSpec.ofChange fnExactProofFeignSpec)

/-- ITS FALSE NEIGHBOUR: 'it returns false'. Refute it at one input. -/
def fnExactProofFeignWrong : ChangeSpec := { name := "fnExactProofFeign", fn := fun _ => fun
  | [d1, d2, d3] => { results := [.lit (.bool false)], args := [d1, d2, d3] }
  | _ => none }
def FnExactProofFeignWrongFalsely : Prop := fnExactProofFeignRow.holds Try.pinned (OpenSpec.ofChange fnExactProofFeignWrong)

/-- 'laws.FnExactProofNonce': WHATEVER THE INPUT: true; the input reads as it did. -/
def fnExactProofNonceSpec : ChangeSpec := { name := "fnExactProofNonce", fn := fun _ => fun
  | [d1, d2, d3] => { results := [.lit (.bool true)], args := [d1, d2, d3] }
  | _ => none }
def fnExactProofNonceRow : OpenClaim := { program := "ytjaejgpihonjhaa", sum := "f9c74e3b025a8d47a7c3e6abb8dd2949a4b37028a5ec9f8b7aac8da3e796a6f0", func := "loop.example/underveil/laws.FnExactProofNonce", spec := "fnExactProofNonce", apart := false }
def FnExactProofNonceSaid : Prop := fnExactProofNonceRow.holds Try.pinned (OpenSpec.ofChange fnExactProofNonceSpec)

/-- ITS FALSE NEIGHBOUR: 'it returns false'. Refute it at one input. -/
def fnExactProofNonceWrong : ChangeSpec := { name := "fnExactProofNonce", fn := fun _ => fun
  | [d1, d2, d3] => { results := [.lit (.bool false)], args := [d1, d2, d3] }
  | _ => none }
def FnExactProofNonceWrongFalsely : Prop := fnExactProofNonceRow.holds Try.pinned (OpenSpec.ofChange fnExactProofNonceWrong)

/-- 'laws.FnExactTwinMake': WHATEVER THE INPUT: true; the input reads as it did. -/
def fnExactTwinMakeSpec : ChangeSpec := { name := "fnExactTwinMake", fn := fun _ => fun
  | [d1, d2, d3, d4] => { results := [.lit (.bool true)], args := [d1, d2, d3, d4] }
  | _ => none }
def fnExactTwinMakeRow : OpenClaim := { program := "ytjaejgpihonjhaa", sum := "f9c74e3b025a8d47a7c3e6abb8dd2949a4b37028a5ec9f8b7aac8da3e796a6f0", func := "loop.example/underveil/laws.FnExactTwinMake", spec := "fnExactTwinMake", apart := false }
def FnExactTwinMakeSaid : Prop := fnExactTwinMakeRow.holds Try.pinned (OpenSpec.ofChange fnExactTwinMakeSpec)

/-- ITS FALSE NEIGHBOUR: 'it returns false'. Refute it at one input. -/
def fnExactTwinMakeWrong : ChangeSpec := { name := "fnExactTwinMake", fn := fun _ => fun
  | [d1, d2, d3, d4] => { results := [.lit (.bool false)], args := [d1, d2, d3, d4] }
  | _ => none }
def FnExactTwinMakeWrongFalsely : Prop := fnExactTwinMakeRow.holds Try.pinned (OpenSpec.ofChange fnExactTwinMakeWrong)

/-- 'laws.FnExactTwinGood': WHATEVER THE INPUT: true; the input reads as it did. -/
def fnExactTwinGoodSpec : ChangeSpec := { name := "fnExactTwinGood", fn := fun _ => fun
  | [d1, d2, d3] => { results := [.lit (.bool true)], args := [d1, d2, d3] }
  | _ => none }
def fnExactTwinGoodRow : OpenClaim := { program := "ytjaejgpihonjhaa", sum := "f9c74e3b025a8d47a7c3e6abb8dd2949a4b37028a5ec9f8b7aac8da3e796a6f0", func := "loop.example/underveil/laws.FnExactTwinGood", spec := "fnExactTwinGood", apart := false }
def FnExactTwinGoodSaid : Prop := fnExactTwinGoodRow.holds Try.pinned (OpenSpec.ofChange fnExactTwinGoodSpec)

/-- ITS FALSE NEIGHBOUR: 'it returns false'. Refute it at one input. -/
def fnExactTwinGoodWrong : ChangeSpec := { name := "fnExactTwinGood", fn := fun _ => fun
  | [d1, d2, d3] => { results := [.lit (.bool false)], args := [d1, d2, d3] }
  | _ => none }
def FnExactTwinGoodWrongFalsely : Prop := fnExactTwinGoodRow.holds Try.pinned (OpenSpec.ofChange fnExactTwinGoodWrong)

/-- 'laws.FnExactTwinFeign': WHATEVER THE INPUT: true; the input reads as it did. -/
def fnExactTwinFeignSpec : ChangeSpec := { name := "fnExactTwinFeign", fn := fun _ => fun
  | [d1, d2, d3, d4] => { results := [.lit (.bool true)], args := [d1, d2, d3, d4] }
  | _ => none }
def fnExactTwinFeignRow : OpenClaim := { program := "ytjaejgpihonjhaa", sum := "f9c74e3b025a8d47a7c3e6abb8dd2949a4b37028a5ec9f8b7aac8da3e796a6f0", func := "loop.example/underveil/laws.FnExactTwinFeign", spec := "fnExactTwinFeign", apart := false }
def FnExactTwinFeignSaid : Prop := fnExactTwinFeignRow.holds Try.pinned (OpenSpec.ofChange fnExactTwinFeignSpec)

/-- ITS FALSE NEIGHBOUR: 'it returns false'. Refute it at one input. -/
def fnExactTwinFeignWrong : ChangeSpec := { name := "fnExactTwinFeign", fn := fun _ => fun
  | [d1, d2, d3, d4] => { results := [.lit (.bool false)], args := [d1, d2, d3, d4] }
  | _ => none }
def FnExactTwinFeignWrongFalsely : Prop := fnExactTwinFeignRow.holds Try.pinned (OpenSpec.ofChange fnExactTwinFeignWrong)

/-- 'laws.FnProofGood': WHATEVER THE INPUT: true; the input reads as it did. -/
def fnProofGoodSpec : ChangeSpec := { name := "fnProofGood", fn := fun _ => fun
  | [d] => { results := [.lit (.bool true)], args := [d] }
  | _ => none }
def fnProofGoodRow : OpenClaim := { program := "ytjaejgpihonjhaa", sum := "f9c74e3b025a8d47a7c3e6abb8dd2949a4b37028a5ec9f8b7aac8da3e796a6f0", func := "loop.example/underveil/laws.FnProofGood", spec := "fnProofGood", apart := false }
def FnProofGoodSaid : Prop := fnProofGoodRow.holds Try.pinned (OpenSpec.ofChange fnProofGoodSpec)

/-- ITS FALSE NEIGHBOUR: 'it returns false'. Refute it at one input. -/
def fnProofGoodWrong : ChangeSpec := { name := "fnProofGood", fn := fun _ => fun
  | [d] => { results := [.lit (.bool false)], args := [d] }
  | _ => none }
def FnProofGoodWrongFalsely : Prop := fnProofGoodRow.holds Try.pinned (OpenSpec.ofChange fnProofGoodWrong)

/-- 'laws.FnProofSecret': WHATEVER THE INPUT: true; the input reads as it did. -/
def fnProofSecretSpec : ChangeSpec := { name := "fnProofSecret", fn := fun _ => fun
  | [d] => { results := [.lit (.bool true)], args := [d] }
  | _ => none }
def fnProofSecretRow : OpenClaim := { program := "ytjaejgpihonjhaa", sum := "f9c74e3b025a8d47a7c3e6abb8dd2949a4b37028a5ec9f8b7aac8da3e796a6f0", func := "loop.example/underveil/laws.FnProofSecret", spec := "fnProofSecret", apart := false }
def FnProofSecretSaid : Prop := fnProofSecretRow.holds Try.pinned (OpenSpec.ofChange fnProofSecretSpec)

/-- ITS FALSE NEIGHBOUR: 'it returns false'. Refute it at one input. -/
def fnProofSecretWrong : ChangeSpec := { name := "fnProofSecret", fn := fun _ => fun
  | [d] => { results := [.lit (.bool false)], args := [d] }
  | _ => none }
def FnProofSecretWrongFalsely : Prop := fnProofSecretRow.holds Try.pinned (OpenSpec.ofChange fnProofSecretWrong)

/-- 'laws.FnExactMix': WHATEVER THE INPUT: true; the input reads as it did. -/
def fnExactMixSpec : ChangeSpec := { name := "fnExactMix", fn := fun _ => fun
  | [d] => { results := [.lit (.bool true)], args := [d] }
  | _ => none }
def fnExactMixRow : OpenClaim := { program := "ytjaejgpihonjhaa", sum := "f9c74e3b025a8d47a7c3e6abb8dd2949a4b37028a5ec9f8b7aac8da3e796a6f0", func := "loop.example/underveil/laws.FnExactMix", spec := "fnExactMix", apart := false }
def FnExactMixSaid : Prop := fnExactMixRow.holds Try.pinned (OpenSpec.ofChange fnExactMixSpec)

/-- ITS FALSE NEIGHBOUR: 'it returns false'. Refute it at one input. -/
def fnExactMixWrong : ChangeSpec := { name := "fnExactMix", fn := fun _ => fun
  | [d] => { results := [.lit (.bool false)], args := [d] }
  | _ => none }
def FnExactMixWrongFalsely : Prop := fnExactMixRow.holds Try.pinned (OpenSpec.ofChange fnExactMixWrong)

/- THE SECOND FORM. 'bulk': how many values and letters a reading holds, each counted each time it is reached (what is shared counts as often as it is met; a slice's spare places count too). A statement '..UptoSaid' is the law's where the arguments, and the package variables that the reading takes, are together of bulk at most 1048576: NARROWER than '..Said'. Prove '..Said' where nothing that the law and all that it calls make is longer than what came in: it says more and counts as full. Else prove '..UptoSaid'. A law counts once. -/
mutual
def uptoBulk {H : Type} : DataW H → Nat
  | .lit (.string bytes) => bytes.length + 1
  | .lit _ => 1
  | .nil => 1
  | .ptr d => uptoBulk d + 1
  | .slice elems spare => uptoBulkAll elems + uptoBulkAll spare + 1
  | .agg parts => uptoBulkAll parts + 1
  | .iface _ d => uptoBulk d + 1
  | .map entries => uptoBulkEntries entries + 1
  | .held _ => 1
def uptoBulkAll {H : Type} : List (DataW H) → Nat
  | [] => 0
  | d :: r => uptoBulk d + uptoBulkAll r
def uptoBulkEntries {H : Type} : List (Lit × DataW H) → Nat
  | [] => 0
  | x :: r => uptoBulkEntry x + uptoBulkEntries r
def uptoBulkEntry {H : Type} : Lit × DataW H → Nat
  | (.string bytes, d) => bytes.length + uptoBulk d + 1
  | (_, d) => uptoBulk d + 1
 end
def uptoSmall : (H : Type) → List (DataW H) → Bool := fun _ ds => decide (uptoBulkAll ds ≤ 1048576)
def OpenSpec.upto (s : _root_.Go.ChangeSpec) : _root_.Go.OpenSpec := { _root_.Go.OpenSpec.ofChange s with cond := some uptoSmall }

/-- 'laws.FnExactProofMake', WHERE WHAT IT READS IS OF BULK AT MOST 1048576: true; the input reads as it did. -/
def fnExactProofMakeUptoRow : OpenClaim := { program := "ytjaejgpihonjhaa", sum := "f9c74e3b025a8d47a7c3e6abb8dd2949a4b37028a5ec9f8b7aac8da3e796a6f0", func := "loop.example/underveil/laws.FnExactProofMake", spec := "fnExactProofMake", apart := false, narrowed := true }
def FnExactProofMakeUptoSaid : Prop := fnExactProofMakeUptoRow.holds Try.pinned (OpenSpec.upto fnExactProofMakeSpec)

/-- 'laws.FnExactProofGood', WHERE WHAT IT READS IS OF BULK AT MOST 1048576: true; the input reads as it did. -/
def fnExactProofGoodUptoRow : OpenClaim := { program := "ytjaejgpihonjhaa", sum := "f9c74e3b025a8d47a7c3e6abb8dd2949a4b37028a5ec9f8b7aac8da3e796a6f0", func := "loop.example/underveil/laws.FnExactProofGood", spec := "fnExactProofGood", apart := false, narrowed := true }
def FnExactProofGoodUptoSaid : Prop := fnExactProofGoodUptoRow.holds Try.pinned (OpenSpec.upto fnExactProofGoodSpec)

/-- 'laws.FnExactProofSecret', WHERE WHAT IT READS IS OF BULK AT MOST 1048576: true; the input reads as it did. -/
def fnExactProofSecretUptoRow : OpenClaim := { program := "ytjaejgpihonjhaa", sum := "f9c74e3b025a8d47a7c3e6abb8dd2949a4b37028a5ec9f8b7aac8da3e796a6f0", func := "loop.example/underveil/laws.FnExactProofSecret", spec := "fnExactProofSecret", apart := false, narrowed := true }
def FnExactProofSecretUptoSaid : Prop := fnExactProofSecretUptoRow.holds Try.pinned (OpenSpec.upto fnExactProofSecretSpec)

/-- 'laws.FnExactProofFeign', WHERE WHAT IT READS IS OF BULK AT MOST 1048576: true; the input reads as it did. -/
def fnExactProofFeignUptoRow : OpenClaim := { program := "ytjaejgpihonjhaa", sum := "f9c74e3b025a8d47a7c3e6abb8dd2949a4b37028a5ec9f8b7aac8da3e796a6f0", func := "loop.example/underveil/laws.FnExactProofFeign", spec := "fnExactProofFeign", apart := false, narrowed := true }
def FnExactProofFeignUptoSaid : Prop := fnExactProofFeignUptoRow.holds Try.pinned (OpenSpec.upto fnExactProofFeignSpec)

/-- 'laws.FnExactProofNonce', WHERE WHAT IT READS IS OF BULK AT MOST 1048576: true; the input reads as it did. -/
def fnExactProofNonceUptoRow : OpenClaim := { program := "ytjaejgpihonjhaa", sum := "f9c74e3b025a8d47a7c3e6abb8dd2949a4b37028a5ec9f8b7aac8da3e796a6f0", func := "loop.example/underveil/laws.FnExactProofNonce", spec := "fnExactProofNonce", apart := false, narrowed := true }
def FnExactProofNonceUptoSaid : Prop := fnExactProofNonceUptoRow.holds Try.pinned (OpenSpec.upto fnExactProofNonceSpec)

/-- 'laws.FnExactTwinMake', WHERE WHAT IT READS IS OF BULK AT MOST 1048576: true; the input reads as it did. -/
def fnExactTwinMakeUptoRow : OpenClaim := { program := "ytjaejgpihonjhaa", sum := "f9c74e3b025a8d47a7c3e6abb8dd2949a4b37028a5ec9f8b7aac8da3e796a6f0", func := "loop.example/underveil/laws.FnExactTwinMake", spec := "fnExactTwinMake", apart := false, narrowed := true }
def FnExactTwinMakeUptoSaid : Prop := fnExactTwinMakeUptoRow.holds Try.pinned (OpenSpec.upto fnExactTwinMakeSpec)

/-- 'laws.FnExactTwinGood', WHERE WHAT IT READS IS OF BULK AT MOST 1048576: true; the input reads as it did. -/
def fnExactTwinGoodUptoRow : OpenClaim := { program := "ytjaejgpihonjhaa", sum := "f9c74e3b025a8d47a7c3e6abb8dd2949a4b37028a5ec9f8b7aac8da3e796a6f0", func := "loop.example/underveil/laws.FnExactTwinGood", spec := "fnExactTwinGood", apart := false, narrowed := true }
def FnExactTwinGoodUptoSaid : Prop := fnExactTwinGoodUptoRow.holds Try.pinned (OpenSpec.upto fnExactTwinGoodSpec)

/-- 'laws.FnExactTwinFeign', WHERE WHAT IT READS IS OF BULK AT MOST 1048576: true; the input reads as it did. -/
def fnExactTwinFeignUptoRow : OpenClaim := { program := "ytjaejgpihonjhaa", sum := "f9c74e3b025a8d47a7c3e6abb8dd2949a4b37028a5ec9f8b7aac8da3e796a6f0", func := "loop.example/underveil/laws.FnExactTwinFeign", spec := "fnExactTwinFeign", apart := false, narrowed := true }
def FnExactTwinFeignUptoSaid : Prop := fnExactTwinFeignUptoRow.holds Try.pinned (OpenSpec.upto fnExactTwinFeignSpec)

/-- 'laws.FnProofGood', WHERE WHAT IT READS IS OF BULK AT MOST 1048576: true; the input reads as it did. -/
def fnProofGoodUptoRow : OpenClaim := { program := "ytjaejgpihonjhaa", sum := "f9c74e3b025a8d47a7c3e6abb8dd2949a4b37028a5ec9f8b7aac8da3e796a6f0", func := "loop.example/underveil/laws.FnProofGood", spec := "fnProofGood", apart := false, narrowed := true }
def FnProofGoodUptoSaid : Prop := fnProofGoodUptoRow.holds Try.pinned (OpenSpec.upto fnProofGoodSpec)

/-- 'laws.FnProofSecret', WHERE WHAT IT READS IS OF BULK AT MOST 1048576: true; the input reads as it did. -/
def fnProofSecretUptoRow : OpenClaim := { program := "ytjaejgpihonjhaa", sum := "f9c74e3b025a8d47a7c3e6abb8dd2949a4b37028a5ec9f8b7aac8da3e796a6f0", func := "loop.example/underveil/laws.FnProofSecret", spec := "fnProofSecret", apart := false, narrowed := true }
def FnProofSecretUptoSaid : Prop := fnProofSecretUptoRow.holds Try.pinned (OpenSpec.upto fnProofSecretSpec)

/-- 'laws.FnExactMix', WHERE WHAT IT READS IS OF BULK AT MOST 1048576: true; the input reads as it did. -/
def fnExactMixUptoRow : OpenClaim := { program := "ytjaejgpihonjhaa", sum := "f9c74e3b025a8d47a7c3e6abb8dd2949a4b37028a5ec9f8b7aac8da3e796a6f0", func := "loop.example/underveil/laws.FnExactMix", spec := "fnExactMix", apart := false, narrowed := true }
def FnExactMixUptoSaid : Prop := fnExactMixUptoRow.holds Try.pinned (OpenSpec.upto fnExactMixSpec)

end Rows
end Go.Proofs.Ytjaejgpihonjhaa

/-
  No cell of these rows narrows 'for every input' (looked for: loops, veiled, ifaces, maps, wideKeys, modest, calm, conditions, laid).
  DERIVED. THE GIVEN ROWS OF THIS SEAT. 4 by the template 'for every input the law returns true; each argument reads behind the call as it read before'; 0 by the template 'total and deterministic' (their statements: YtlagkinamnjnhaaTotals.lean).
  GIVEN WITH THE SEED: the statements are not yours to turn. If you find one false, say at which input.
  Laid BY PROGRAM, IN A SANDBOX (cutbox-rows.mjs): the forced cells as the released guide's own fill.sh prints them over the translation e882f94221528681… (all of the seat's roots in one cut). By AI agents, Wed Nov 11 2026. No macro, syntax, notation, axiom, sorry.
-/
import Derived.Test.YtlagkinamnjnhaaChecked
import GoSem.Claim
import GoSem.ClaimJoined
import GoSem.ClaimMapViews
import Derived.JoinedTies
import Derived.KernelRfl
namespace Go.Proofs.Ytlagkinamnjnhaa
/- THE CELL 'sum', in the pinned program and in every row, IS THE sha256 OF THE DUMP (.gsa) THAT YtlagkinamnjnhaaProg.lean LOADS. Nothing in Lean hashes anything: it is a label: what it is worth is what the hold of that sum in a sandbox is worth. -/
noncomputable def Try.pinned : Pinned := { name := "ytlagkinamnjnhaa", sum := "e882f94221528681c7ec4ae9f236c6194c6b41217eb721d36bfad1ff60f103ee", checked := Try.checked }
namespace Rows
def none {H : Type} : Left H := { results := [], args := [] }

/-- 'laws.FnExactRowsOf': WHATEVER THE INPUT: true; the input reads as it did. -/
def fnExactRowsOfSpec : ChangeSpec := { name := "fnExactRowsOf", fn := fun _ => fun
  | [d] => { results := [.lit (.bool true)], args := [d] }
  | _ => none }
def fnExactRowsOfRow : OpenClaim := { program := "ytlagkinamnjnhaa", sum := "e882f94221528681c7ec4ae9f236c6194c6b41217eb721d36bfad1ff60f103ee", func := "loop.example/underveil/laws.FnExactRowsOf", spec := "fnExactRowsOf", unfollowed := true, recurses := true, apart := false }
def FnExactRowsOfSaid : Prop := fnExactRowsOfRow.holds Try.pinned (OpenSpec.ofChange fnExactRowsOfSpec)

/-- ITS FALSE NEIGHBOUR: 'it returns false'. Refute it at one input. -/
def fnExactRowsOfWrong : ChangeSpec := { name := "fnExactRowsOf", fn := fun _ => fun
  | [d] => { results := [.lit (.bool false)], args := [d] }
  | _ => none }
def FnExactRowsOfWrongFalsely : Prop := fnExactRowsOfRow.holds Try.pinned (OpenSpec.ofChange fnExactRowsOfWrong)

/-- 'laws.FnExactRowsWitness': WHATEVER THE INPUT: true; the input reads as it did. -/
def fnExactRowsWitnessSpec : ChangeSpec := { name := "fnExactRowsWitness", fn := fun _ => fun
  | [d1, d2] => { results := [.lit (.bool true)], args := [d1, d2] }
  | _ => none }
def fnExactRowsWitnessRow : OpenClaim := { program := "ytlagkinamnjnhaa", sum := "e882f94221528681c7ec4ae9f236c6194c6b41217eb721d36bfad1ff60f103ee", func := "loop.example/underveil/laws.FnExactRowsWitness", spec := "fnExactRowsWitness", unfollowed := true, recurses := true, apart := false }
def FnExactRowsWitnessSaid : Prop := fnExactRowsWitnessRow.holds Try.pinned (OpenSpec.ofChange fnExactRowsWitnessSpec)

/-- ITS FALSE NEIGHBOUR: 'it returns false'. Refute it at one input. -/
def fnExactRowsWitnessWrong : ChangeSpec := { name := "fnExactRowsWitness", fn := fun _ => fun
  | [d1, d2] => { results := [.lit (.bool false)], args := [d1, d2] }
  | _ => none }
def FnExactRowsWitnessWrongFalsely : Prop := fnExactRowsWitnessRow.holds Try.pinned (OpenSpec.ofChange fnExactRowsWitnessWrong)

/-- 'laws.FnExactQuotientTarget': WHATEVER THE INPUT: true; the input reads as it did. -/
def fnExactQuotientTargetSpec : ChangeSpec := { name := "fnExactQuotientTarget", fn := fun _ => fun
  | [d] => { results := [.lit (.bool true)], args := [d] }
  | _ => none }
def fnExactQuotientTargetRow : OpenClaim := { program := "ytlagkinamnjnhaa", sum := "e882f94221528681c7ec4ae9f236c6194c6b41217eb721d36bfad1ff60f103ee", func := "loop.example/underveil/laws.FnExactQuotientTarget", spec := "fnExactQuotientTarget", apart := false }
def FnExactQuotientTargetSaid : Prop := fnExactQuotientTargetRow.holds Try.pinned (OpenSpec.ofChange fnExactQuotientTargetSpec)

/-- ITS FALSE NEIGHBOUR: 'it returns false'. Refute it at one input. -/
def fnExactQuotientTargetWrong : ChangeSpec := { name := "fnExactQuotientTarget", fn := fun _ => fun
  | [d] => { results := [.lit (.bool false)], args := [d] }
  | _ => none }
def FnExactQuotientTargetWrongFalsely : Prop := fnExactQuotientTargetRow.holds Try.pinned (OpenSpec.ofChange fnExactQuotientTargetWrong)

/-- 'laws.FnRowsOf': WHATEVER THE INPUT: true; the input reads as it did. -/
def fnRowsOfSpec : ChangeSpec := { name := "fnRowsOf", fn := fun _ => fun
  | [d] => { results := [.lit (.bool true)], args := [d] }
  | _ => none }
def fnRowsOfRow : OpenClaim := { program := "ytlagkinamnjnhaa", sum := "e882f94221528681c7ec4ae9f236c6194c6b41217eb721d36bfad1ff60f103ee", func := "loop.example/underveil/laws.FnRowsOf", spec := "fnRowsOf", unfollowed := true, recurses := true, apart := false }
def FnRowsOfSaid : Prop := fnRowsOfRow.holds Try.pinned (OpenSpec.ofChange fnRowsOfSpec)

/-- ITS FALSE NEIGHBOUR: 'it returns false'. Refute it at one input. -/
def fnRowsOfWrong : ChangeSpec := { name := "fnRowsOf", fn := fun _ => fun
  | [d] => { results := [.lit (.bool false)], args := [d] }
  | _ => none }
def FnRowsOfWrongFalsely : Prop := fnRowsOfRow.holds Try.pinned (OpenSpec.ofChange fnRowsOfWrong)

/- THE SECOND FORM. 'bulk': how many values and letters a reading holds, each counted each time it is reached (what is shared counts as often as it is met; a slice's spare places count too). A statement '..UptoSaid' is the law's where the arguments, and the package variables that the reading takes, are together of bulk at most 1048576: NARROWER than '..Said'. Prove '..Said' where nothing that the law and all that it calls make is longer than what came in: it says more and counts as full. Else prove '..UptoSaid'. A law counts once. -/
mutual
def uptoBulk {H : Type} : DataW H → Nat
  | .lit (.string bytes) => bytes.length + 1
  | .lit _ => 1
  | .nil => 1
  | .ptr d => uptoBulk d + 1
  | .slice elems spare => uptoBulkAll elems + uptoBulkAll spare + 1
  | .agg parts => uptoBulkAll parts + 1
  | .iface _ d => uptoBulk d + 1
  | .map entries => uptoBulkEntries entries + 1
  | .held _ => 1
def uptoBulkAll {H : Type} : List (DataW H) → Nat
  | [] => 0
  | d :: r => uptoBulk d + uptoBulkAll r
def uptoBulkEntries {H : Type} : List (Lit × DataW H) → Nat
  | [] => 0
  | x :: r => uptoBulkEntry x + uptoBulkEntries r
def uptoBulkEntry {H : Type} : Lit × DataW H → Nat
  | (.string bytes, d) => bytes.length + uptoBulk d + 1
  | (_, d) => uptoBulk d + 1
 end
def uptoSmall : (H : Type) → List (DataW H) → Bool := fun _ ds => decide (uptoBulkAll ds ≤ 1048576)
def OpenSpec.upto (s : _root_.Go.ChangeSpec) : _root_.Go.OpenSpec := { _root_.Go.OpenSpec.ofChange s with cond := some uptoSmall }

/-- 'laws.FnExactRowsOf', WHERE WHAT IT READS IS OF BULK AT MOST 1048576: true; the input reads as it did. -/
def fnExactRowsOfUptoRow : OpenClaim := { program := "ytlagkinamnjnhaa", sum := "e882f94221528681c7ec4ae9f236c6194c6b41217eb721d36bfad1ff60f103ee", func := "loop.example/underveil/laws.FnExactRowsOf", spec := "fnExactRowsOf", unfollowed := true, recurses := true, apart := false, narrowed := true }
def FnExactRowsOfUptoSaid : Prop := fnExactRowsOfUptoRow.holds Try.pinned (OpenSpec.upto fnExactRowsOfSpec)

/-- 'laws.FnExactRowsWitness', WHERE WHAT IT READS IS OF BULK AT MOST 1048576: true; the input reads as it did. -/
def fnExactRowsWitnessUptoRow : OpenClaim := { program := "ytlagkinamnjnhaa", sum := "e882f94221528681c7ec4ae9f236c6194c6b41217eb721d36bfad1ff60f103ee", func := "loop.example/underveil/laws.FnExactRowsWitness", spec := "fnExactRowsWitness", unfollowed := true, recurses := true, apart := false, narrowed := true }
def FnExactRowsWitnessUptoSaid : Prop := fnExactRowsWitnessUptoRow.holds Try.pinned (OpenSpec.upto fnExactRowsWitnessSpec)

/-- 'laws.FnExactQuotientTarget', WHERE WHAT IT READS IS OF BULK AT MOST 1048576: true; the input reads as it did. -/
def fnExactQuotientTargetUptoRow : OpenClaim := { program := "ytlagkinamnjnhaa", sum := "e882f94221528681c7ec4ae9f236c6194c6b41217eb721d36bfad1ff60f103ee", func := "loop.example/underveil/laws.FnExactQuotientTarget", spec := "fnExactQuotientTarget", apart := false, narrowed := true }
def FnExactQuotientTargetUptoSaid : Prop := fnExactQuotientTargetUptoRow.holds Try.pinned (OpenSpec.upto fnExactQuotientTargetSpec)

/-- 'laws.FnRowsOf', WHERE WHAT IT READS IS OF BULK AT MOST 1048576: true; the input reads as it did. -/
def fnRowsOfUptoRow : OpenClaim := { program := "ytlagkinamnjnhaa", sum := "e882f94221528681c7ec4ae9f236c6194c6b41217eb721d36bfad1ff60f103ee", func := "loop.example/underveil/laws.FnRowsOf", spec := "fnRowsOf", unfollowed := true, recurses := true, apart := false, narrowed := true }
def FnRowsOfUptoSaid : Prop := fnRowsOfUptoRow.holds Try.pinned (OpenSpec.upto fnRowsOfSpec)

end Rows
end Go.Proofs.Ytlagkinamnjnhaa

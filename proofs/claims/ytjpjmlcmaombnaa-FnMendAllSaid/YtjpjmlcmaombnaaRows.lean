/-
  No cell of these rows narrows 'for every input' (looked for: loops, veiled, ifaces, maps, wideKeys, modest, calm, conditions, laid).
  DERIVED. THE GIVEN ROWS OF THIS SEAT. 17 by the template 'for every input the law returns true; each argument reads behind the call as it read before'; 0 by the template 'total and deterministic' (their statements: YtjpjmlcmaombnaaTotals.lean).
  GIVEN WITH THE SEED: the statements are not yours to turn. If you find one false, say at which input.
  Laid BY PROGRAM, IN A SANDBOX (cutbox-rows.mjs): the forced cells as the released guide's own fill.sh prints them over the translation 73ad1b236b35158f… (all of the seat's roots in one cut). By AI agents, Wed Nov 11 2026. No macro, syntax, notation, axiom, sorry.
-/
import Derived.Test.YtjpjmlcmaombnaaChecked
import GoSem.Claim
import GoSem.ClaimJoined
import GoSem.ClaimMapViews
import Derived.JoinedTies
import Derived.KernelRfl
namespace Go.Proofs.Ytjpjmlcmaombnaa
/- THE CELL 'sum', in the pinned program and in every row, IS THE sha256 OF THE DUMP (.gsa) THAT YtjpjmlcmaombnaaProg.lean LOADS. Nothing in Lean hashes anything: it is a label: what it is worth is what the hold of that sum in a sandbox is worth. -/
noncomputable def Try.pinned : Pinned := { name := "ytjpjmlcmaombnaa", sum := "73ad1b236b35158f1bf158a5dd315ae1f0e65a1cac0033121cb408b006a13aa6", checked := Try.checked }
namespace Rows
def none {H : Type} : Left H := { results := [], args := [] }

/-- 'laws.FnExactMendMost': WHATEVER THE INPUT: true; the input reads as it did. -/
def fnExactMendMostSpec : ChangeSpec := { name := "fnExactMendMost", fn := fun _ => fun
  | [d1, d2] => { results := [.lit (.bool true)], args := [d1, d2] }
  | _ => none }
def fnExactMendMostRow : OpenClaim := { program := "ytjpjmlcmaombnaa", sum := "73ad1b236b35158f1bf158a5dd315ae1f0e65a1cac0033121cb408b006a13aa6", func := "loop.example/underveil/laws.FnExactMendMost", spec := "fnExactMendMost", plainKeys := false, apart := false }
def FnExactMendMostSaid : Prop := fnExactMendMostRow.holds Try.pinned (OpenSpec.ofChange fnExactMendMostSpec)

/-- ITS FALSE NEIGHBOUR: 'it returns false'. Refute it at one input. -/
def fnExactMendMostWrong : ChangeSpec := { name := "fnExactMendMost", fn := fun _ => fun
  | [d1, d2] => { results := [.lit (.bool false)], args := [d1, d2] }
  | _ => none }
def FnExactMendMostWrongFalsely : Prop := fnExactMendMostRow.holds Try.pinned (OpenSpec.ofChange fnExactMendMostWrong)

/-- 'laws.FnExactSharesMend': WHATEVER THE INPUT: true; the input reads as it did. -/
def fnExactSharesMendSpec : ChangeSpec := { name := "fnExactSharesMend", fn := fun _ => fun
  | [d1, d2] => { results := [.lit (.bool true)], args := [d1, d2] }
  | _ => none }
def fnExactSharesMendRow : OpenClaim := { program := "ytjpjmlcmaombnaa", sum := "73ad1b236b35158f1bf158a5dd315ae1f0e65a1cac0033121cb408b006a13aa6", func := "loop.example/underveil/laws.FnExactSharesMend", spec := "fnExactSharesMend", unfollowed := true, recurses := true, plainKeys := false, apart := false }
def FnExactSharesMendSaid : Prop := fnExactSharesMendRow.holds Try.pinned (OpenSpec.ofChange fnExactSharesMendSpec)

/-- ITS FALSE NEIGHBOUR: 'it returns false'. Refute it at one input. -/
def fnExactSharesMendWrong : ChangeSpec := { name := "fnExactSharesMend", fn := fun _ => fun
  | [d1, d2] => { results := [.lit (.bool false)], args := [d1, d2] }
  | _ => none }
def FnExactSharesMendWrongFalsely : Prop := fnExactSharesMendRow.holds Try.pinned (OpenSpec.ofChange fnExactSharesMendWrong)

/-- 'laws.FnExactSharesWrong': WHATEVER THE INPUT: true; the input reads as it did. -/
def fnExactSharesWrongSpec : ChangeSpec := { name := "fnExactSharesWrong", fn := fun _ => fun
  | [d1, d2] => { results := [.lit (.bool true)], args := [d1, d2] }
  | _ => none }
def fnExactSharesWrongRow : OpenClaim := { program := "ytjpjmlcmaombnaa", sum := "73ad1b236b35158f1bf158a5dd315ae1f0e65a1cac0033121cb408b006a13aa6", func := "loop.example/underveil/laws.FnExactSharesWrong", spec := "fnExactSharesWrong", plainKeys := false, apart := false }
def FnExactSharesWrongSaid : Prop := fnExactSharesWrongRow.holds Try.pinned (OpenSpec.ofChange fnExactSharesWrongSpec)

/-- ITS FALSE NEIGHBOUR: 'it returns false'. Refute it at one input. -/
def fnExactSharesWrongWrong : ChangeSpec := { name := "fnExactSharesWrong", fn := fun _ => fun
  | [d1, d2] => { results := [.lit (.bool false)], args := [d1, d2] }
  | _ => none }
def FnExactSharesWrongWrongFalsely : Prop := fnExactSharesWrongRow.holds Try.pinned (OpenSpec.ofChange fnExactSharesWrongWrong)

/-- 'laws.FnExactCommit': WHATEVER THE INPUT: true; the input reads as it did. -/
def fnExactCommitSpec : ChangeSpec := { name := "fnExactCommit", fn := fun _ => fun
  | [d1, d2] => { results := [.lit (.bool true)], args := [d1, d2] }
  | _ => none }
def fnExactCommitRow : OpenClaim := { program := "ytjpjmlcmaombnaa", sum := "73ad1b236b35158f1bf158a5dd315ae1f0e65a1cac0033121cb408b006a13aa6", func := "loop.example/underveil/laws.FnExactCommit", spec := "fnExactCommit", plainKeys := false, apart := false }
def FnExactCommitSaid : Prop := fnExactCommitRow.holds Try.pinned (OpenSpec.ofChange fnExactCommitSpec)

/-- ITS FALSE NEIGHBOUR: 'it returns false'. Refute it at one input. -/
def fnExactCommitWrong : ChangeSpec := { name := "fnExactCommit", fn := fun _ => fun
  | [d1, d2] => { results := [.lit (.bool false)], args := [d1, d2] }
  | _ => none }
def FnExactCommitWrongFalsely : Prop := fnExactCommitRow.holds Try.pinned (OpenSpec.ofChange fnExactCommitWrong)

/-- 'laws.FnExactCommitOpen': WHATEVER THE INPUT: true; the input reads as it did. -/
def fnExactCommitOpenSpec : ChangeSpec := { name := "fnExactCommitOpen", fn := fun _ => fun
  | [d1, d2, d3] => { results := [.lit (.bool true)], args := [d1, d2, d3] }
  | _ => none }
def fnExactCommitOpenRow : OpenClaim := { program := "ytjpjmlcmaombnaa", sum := "73ad1b236b35158f1bf158a5dd315ae1f0e65a1cac0033121cb408b006a13aa6", func := "loop.example/underveil/laws.FnExactCommitOpen", spec := "fnExactCommitOpen", plainKeys := false, apart := false }
def FnExactCommitOpenSaid : Prop := fnExactCommitOpenRow.holds Try.pinned (OpenSpec.ofChange fnExactCommitOpenSpec)

/-- ITS FALSE NEIGHBOUR: 'it returns false'. Refute it at one input. -/
def fnExactCommitOpenWrong : ChangeSpec := { name := "fnExactCommitOpen", fn := fun _ => fun
  | [d1, d2, d3] => { results := [.lit (.bool false)], args := [d1, d2, d3] }
  | _ => none }
def FnExactCommitOpenWrongFalsely : Prop := fnExactCommitOpenRow.holds Try.pinned (OpenSpec.ofChange fnExactCommitOpenWrong)

/-- 'laws.FnExactTrapdoor': WHATEVER THE INPUT: true; the input reads as it did. -/
def fnExactTrapdoorSpec : ChangeSpec := { name := "fnExactTrapdoor", fn := fun _ => fun
  | [] => { results := [.lit (.bool true)], args := [] }
  | _ => none }
def fnExactTrapdoorRow : OpenClaim := { program := "ytjpjmlcmaombnaa", sum := "73ad1b236b35158f1bf158a5dd315ae1f0e65a1cac0033121cb408b006a13aa6", func := "loop.example/underveil/laws.FnExactTrapdoor", spec := "fnExactTrapdoor", plainKeys := false, apart := false }
def FnExactTrapdoorSaid : Prop := fnExactTrapdoorRow.holds Try.pinned (OpenSpec.ofChange fnExactTrapdoorSpec)

/-- ITS FALSE NEIGHBOUR: 'it returns false'. Refute it at one input. -/
def fnExactTrapdoorWrong : ChangeSpec := { name := "fnExactTrapdoor", fn := fun _ => fun
  | [] => { results := [.lit (.bool false)], args := [] }
  | _ => none }
def FnExactTrapdoorWrongFalsely : Prop := fnExactTrapdoorRow.holds Try.pinned (OpenSpec.ofChange fnExactTrapdoorWrong)

/-- 'laws.FnExactCommitTurn': WHATEVER THE INPUT: true; the input reads as it did. -/
def fnExactCommitTurnSpec : ChangeSpec := { name := "fnExactCommitTurn", fn := fun _ => fun
  | [d1, d2, d3] => { results := [.lit (.bool true)], args := [d1, d2, d3] }
  | _ => none }
def fnExactCommitTurnRow : OpenClaim := { program := "ytjpjmlcmaombnaa", sum := "73ad1b236b35158f1bf158a5dd315ae1f0e65a1cac0033121cb408b006a13aa6", func := "loop.example/underveil/laws.FnExactCommitTurn", spec := "fnExactCommitTurn", plainKeys := false, apart := false }
def FnExactCommitTurnSaid : Prop := fnExactCommitTurnRow.holds Try.pinned (OpenSpec.ofChange fnExactCommitTurnSpec)

/-- ITS FALSE NEIGHBOUR: 'it returns false'. Refute it at one input. -/
def fnExactCommitTurnWrong : ChangeSpec := { name := "fnExactCommitTurn", fn := fun _ => fun
  | [d1, d2, d3] => { results := [.lit (.bool false)], args := [d1, d2, d3] }
  | _ => none }
def FnExactCommitTurnWrongFalsely : Prop := fnExactCommitTurnRow.holds Try.pinned (OpenSpec.ofChange fnExactCommitTurnWrong)

/-- 'laws.FnExactCommitBreak': WHATEVER THE INPUT: true; the input reads as it did. -/
def fnExactCommitBreakSpec : ChangeSpec := { name := "fnExactCommitBreak", fn := fun _ => fun
  | [d1, d2, d3, d4] => { results := [.lit (.bool true)], args := [d1, d2, d3, d4] }
  | _ => none }
def fnExactCommitBreakRow : OpenClaim := { program := "ytjpjmlcmaombnaa", sum := "73ad1b236b35158f1bf158a5dd315ae1f0e65a1cac0033121cb408b006a13aa6", func := "loop.example/underveil/laws.FnExactCommitBreak", spec := "fnExactCommitBreak", plainKeys := false, apart := false }
def FnExactCommitBreakSaid : Prop := fnExactCommitBreakRow.holds Try.pinned (OpenSpec.ofChange fnExactCommitBreakSpec)

/-- ITS FALSE NEIGHBOUR: 'it returns false'. Refute it at one input. -/
def fnExactCommitBreakWrong : ChangeSpec := { name := "fnExactCommitBreak", fn := fun _ => fun
  | [d1, d2, d3, d4] => { results := [.lit (.bool false)], args := [d1, d2, d3, d4] }
  | _ => none }
def FnExactCommitBreakWrongFalsely : Prop := fnExactCommitBreakRow.holds Try.pinned (OpenSpec.ofChange fnExactCommitBreakWrong)

/-- 'laws.FnExactPublish': WHATEVER THE INPUT: true; the input reads as it did. -/
def fnExactPublishSpec : ChangeSpec := { name := "fnExactPublish", fn := fun _ => fun
  | [d1, d2] => { results := [.lit (.bool true)], args := [d1, d2] }
  | _ => none }
def fnExactPublishRow : OpenClaim := { program := "ytjpjmlcmaombnaa", sum := "73ad1b236b35158f1bf158a5dd315ae1f0e65a1cac0033121cb408b006a13aa6", func := "loop.example/underveil/laws.FnExactPublish", spec := "fnExactPublish", plainKeys := false, apart := false }
def FnExactPublishSaid : Prop := fnExactPublishRow.holds Try.pinned (OpenSpec.ofChange fnExactPublishSpec)

/-- ITS FALSE NEIGHBOUR: 'it returns false'. Refute it at one input. -/
def fnExactPublishWrong : ChangeSpec := { name := "fnExactPublish", fn := fun _ => fun
  | [d1, d2] => { results := [.lit (.bool false)], args := [d1, d2] }
  | _ => none }
def FnExactPublishWrongFalsely : Prop := fnExactPublishRow.holds Try.pinned (OpenSpec.ofChange fnExactPublishWrong)

/-- 'laws.FnExactShareCheck': WHATEVER THE INPUT: true; the input reads as it did. -/
def fnExactShareCheckSpec : ChangeSpec := { name := "fnExactShareCheck", fn := fun _ => fun
  | [d1, d2] => { results := [.lit (.bool true)], args := [d1, d2] }
  | _ => none }
def fnExactShareCheckRow : OpenClaim := { program := "ytjpjmlcmaombnaa", sum := "73ad1b236b35158f1bf158a5dd315ae1f0e65a1cac0033121cb408b006a13aa6", func := "loop.example/underveil/laws.FnExactShareCheck", spec := "fnExactShareCheck", plainKeys := false, apart := false }
def FnExactShareCheckSaid : Prop := fnExactShareCheckRow.holds Try.pinned (OpenSpec.ofChange fnExactShareCheckSpec)

/-- ITS FALSE NEIGHBOUR: 'it returns false'. Refute it at one input. -/
def fnExactShareCheckWrong : ChangeSpec := { name := "fnExactShareCheck", fn := fun _ => fun
  | [d1, d2] => { results := [.lit (.bool false)], args := [d1, d2] }
  | _ => none }
def FnExactShareCheckWrongFalsely : Prop := fnExactShareCheckRow.holds Try.pinned (OpenSpec.ofChange fnExactShareCheckWrong)

/-- 'laws.FnSeenAlike': WHATEVER THE INPUT: true; the input reads as it did. -/
def fnSeenAlikeSpec : ChangeSpec := { name := "fnSeenAlike", fn := fun _ => fun
  | [d1, d2] => { results := [.lit (.bool true)], args := [d1, d2] }
  | _ => none }
def fnSeenAlikeRow : OpenClaim := { program := "ytjpjmlcmaombnaa", sum := "73ad1b236b35158f1bf158a5dd315ae1f0e65a1cac0033121cb408b006a13aa6", func := "loop.example/underveil/laws.FnSeenAlike", spec := "fnSeenAlike", unfollowed := true, recurses := true, plainKeys := false, apart := false }
def FnSeenAlikeSaid : Prop := fnSeenAlikeRow.holds Try.pinned (OpenSpec.ofChange fnSeenAlikeSpec)

/-- ITS FALSE NEIGHBOUR: 'it returns false'. Refute it at one input. -/
def fnSeenAlikeWrong : ChangeSpec := { name := "fnSeenAlike", fn := fun _ => fun
  | [d1, d2] => { results := [.lit (.bool false)], args := [d1, d2] }
  | _ => none }
def FnSeenAlikeWrongFalsely : Prop := fnSeenAlikeRow.holds Try.pinned (OpenSpec.ofChange fnSeenAlikeWrong)

/-- 'laws.FnMendMost': WHATEVER THE INPUT: true; the input reads as it did. -/
def fnMendMostSpec : ChangeSpec := { name := "fnMendMost", fn := fun _ => fun
  | [d] => { results := [.lit (.bool true)], args := [d] }
  | _ => none }
def fnMendMostRow : OpenClaim := { program := "ytjpjmlcmaombnaa", sum := "73ad1b236b35158f1bf158a5dd315ae1f0e65a1cac0033121cb408b006a13aa6", func := "loop.example/underveil/laws.FnMendMost", spec := "fnMendMost", plainKeys := false, apart := false }
def FnMendMostSaid : Prop := fnMendMostRow.holds Try.pinned (OpenSpec.ofChange fnMendMostSpec)

/-- ITS FALSE NEIGHBOUR: 'it returns false'. Refute it at one input. -/
def fnMendMostWrong : ChangeSpec := { name := "fnMendMost", fn := fun _ => fun
  | [d] => { results := [.lit (.bool false)], args := [d] }
  | _ => none }
def FnMendMostWrongFalsely : Prop := fnMendMostRow.holds Try.pinned (OpenSpec.ofChange fnMendMostWrong)

/-- 'laws.FnMendAll': WHATEVER THE INPUT: true; the input reads as it did. -/
def fnMendAllSpec : ChangeSpec := { name := "fnMendAll", fn := fun _ => fun
  | [d1, d2] => { results := [.lit (.bool true)], args := [d1, d2] }
  | _ => none }
def fnMendAllRow : OpenClaim := { program := "ytjpjmlcmaombnaa", sum := "73ad1b236b35158f1bf158a5dd315ae1f0e65a1cac0033121cb408b006a13aa6", func := "loop.example/underveil/laws.FnMendAll", spec := "fnMendAll", unfollowed := true, recurses := true, plainKeys := false, apart := false }
def FnMendAllSaid : Prop := fnMendAllRow.holds Try.pinned (OpenSpec.ofChange fnMendAllSpec)

/-- ITS FALSE NEIGHBOUR: 'it returns false'. Refute it at one input. -/
def fnMendAllWrong : ChangeSpec := { name := "fnMendAll", fn := fun _ => fun
  | [d1, d2] => { results := [.lit (.bool false)], args := [d1, d2] }
  | _ => none }
def FnMendAllWrongFalsely : Prop := fnMendAllRow.holds Try.pinned (OpenSpec.ofChange fnMendAllWrong)

/-- 'laws.FnCommit': WHATEVER THE INPUT: true; the input reads as it did. -/
def fnCommitSpec : ChangeSpec := { name := "fnCommit", fn := fun _ => fun
  | [d] => { results := [.lit (.bool true)], args := [d] }
  | _ => none }
def fnCommitRow : OpenClaim := { program := "ytjpjmlcmaombnaa", sum := "73ad1b236b35158f1bf158a5dd315ae1f0e65a1cac0033121cb408b006a13aa6", func := "loop.example/underveil/laws.FnCommit", spec := "fnCommit", plainKeys := false, apart := false }
def FnCommitSaid : Prop := fnCommitRow.holds Try.pinned (OpenSpec.ofChange fnCommitSpec)

/-- ITS FALSE NEIGHBOUR: 'it returns false'. Refute it at one input. -/
def fnCommitWrong : ChangeSpec := { name := "fnCommit", fn := fun _ => fun
  | [d] => { results := [.lit (.bool false)], args := [d] }
  | _ => none }
def FnCommitWrongFalsely : Prop := fnCommitRow.holds Try.pinned (OpenSpec.ofChange fnCommitWrong)

/-- 'laws.FnTrapdoor': WHATEVER THE INPUT: true; the input reads as it did. -/
def fnTrapdoorSpec : ChangeSpec := { name := "fnTrapdoor", fn := fun _ => fun
  | [d] => { results := [.lit (.bool true)], args := [d] }
  | _ => none }
def fnTrapdoorRow : OpenClaim := { program := "ytjpjmlcmaombnaa", sum := "73ad1b236b35158f1bf158a5dd315ae1f0e65a1cac0033121cb408b006a13aa6", func := "loop.example/underveil/laws.FnTrapdoor", spec := "fnTrapdoor", plainKeys := false, apart := false }
def FnTrapdoorSaid : Prop := fnTrapdoorRow.holds Try.pinned (OpenSpec.ofChange fnTrapdoorSpec)

/-- ITS FALSE NEIGHBOUR: 'it returns false'. Refute it at one input. -/
def fnTrapdoorWrong : ChangeSpec := { name := "fnTrapdoor", fn := fun _ => fun
  | [d] => { results := [.lit (.bool false)], args := [d] }
  | _ => none }
def FnTrapdoorWrongFalsely : Prop := fnTrapdoorRow.holds Try.pinned (OpenSpec.ofChange fnTrapdoorWrong)

/-- 'laws.FnCommitTurn': WHATEVER THE INPUT: true; the input reads as it did. -/
def fnCommitTurnSpec : ChangeSpec := { name := "fnCommitTurn", fn := fun _ => fun
  | [d] => { results := [.lit (.bool true)], args := [d] }
  | _ => none }
def fnCommitTurnRow : OpenClaim := { program := "ytjpjmlcmaombnaa", sum := "73ad1b236b35158f1bf158a5dd315ae1f0e65a1cac0033121cb408b006a13aa6", func := "loop.example/underveil/laws.FnCommitTurn", spec := "fnCommitTurn", plainKeys := false, apart := false }
def FnCommitTurnSaid : Prop := fnCommitTurnRow.holds Try.pinned (OpenSpec.ofChange fnCommitTurnSpec)

/-- ITS FALSE NEIGHBOUR: 'it returns false'. Refute it at one input. -/
def fnCommitTurnWrong : ChangeSpec := { name := "fnCommitTurn", fn := fun _ => fun
  | [d] => { results := [.lit (.bool false)], args := [d] }
  | _ => none }
def FnCommitTurnWrongFalsely : Prop := fnCommitTurnRow.holds Try.pinned (OpenSpec.ofChange fnCommitTurnWrong)

/-- 'laws.FnCommitBreak': WHATEVER THE INPUT: true; the input reads as it did. -/
def fnCommitBreakSpec : ChangeSpec := { name := "fnCommitBreak", fn := fun _ => fun
  | [d] => { results := [.lit (.bool true)], args := [d] }
  | _ => none }
def fnCommitBreakRow : OpenClaim := { program := "ytjpjmlcmaombnaa", sum := "73ad1b236b35158f1bf158a5dd315ae1f0e65a1cac0033121cb408b006a13aa6", func := "loop.example/underveil/laws.FnCommitBreak", spec := "fnCommitBreak", plainKeys := false, apart := false }
def FnCommitBreakSaid : Prop := fnCommitBreakRow.holds Try.pinned (OpenSpec.ofChange fnCommitBreakSpec)

/-- ITS FALSE NEIGHBOUR: 'it returns false'. Refute it at one input. -/
def fnCommitBreakWrong : ChangeSpec := { name := "fnCommitBreak", fn := fun _ => fun
  | [d] => { results := [.lit (.bool false)], args := [d] }
  | _ => none }
def FnCommitBreakWrongFalsely : Prop := fnCommitBreakRow.holds Try.pinned (OpenSpec.ofChange fnCommitBreakWrong)

/- THE SECOND FORM. 'bulk': how many values and letters a reading holds, each counted each time it is reached (what is shared counts as often as it is met; a slice's spare places count too). A statement '..UptoSaid' is the law's where the arguments, and the package variables that the reading takes, are together of bulk at most 1048576: NARROWER than '..Said'. Prove '..Said' where nothing that the law and all that it calls make is longer than what came in: it says more and counts as full. Else prove '..UptoSaid'. A law counts once. -/
mutual
def uptoBulk {H : Type} : DataW H → Nat
  | .lit (.string bytes) => bytes.length + 1
  | .lit _ => 1
  | .nil => 1
  | .ptr d => uptoBulk d + 1
  | .slice elems spare => uptoBulkAll elems + uptoBulkAll spare + 1
  | .agg parts => uptoBulkAll parts + 1
  | .iface _ d => uptoBulk d + 1
  | .map entries => uptoBulkEntries entries + 1
  | .held _ => 1
def uptoBulkAll {H : Type} : List (DataW H) → Nat
  | [] => 0
  | d :: r => uptoBulk d + uptoBulkAll r
def uptoBulkEntries {H : Type} : List (Lit × DataW H) → Nat
  | [] => 0
  | x :: r => uptoBulkEntry x + uptoBulkEntries r
def uptoBulkEntry {H : Type} : Lit × DataW H → Nat
  | (.string bytes, d) => bytes.length + uptoBulk d + 1
  | (_, d) => uptoBulk d + 1
 end
def uptoSmall : (H : Type) → List (DataW H) → Bool := fun _ ds => decide (uptoBulkAll ds ≤ 1048576)
def OpenSpec.upto (s : _root_.Go.ChangeSpec) : _root_.Go.OpenSpec := { _root_.Go.OpenSpec.ofChange s with cond := some uptoSmall }

/-- 'laws.FnExactMendMost', WHERE WHAT IT READS IS OF BULK AT MOST 1048576: true; the input reads as it did. -/
def fnExactMendMostUptoRow : OpenClaim := { program := "ytjpjmlcmaombnaa", sum := "73ad1b236b35158f1bf158a5dd315ae1f0e65a1cac0033121cb408b006a13aa6", func := "loop.example/underveil/laws.FnExactMendMost", spec := "fnExactMendMost", plainKeys := false, apart := false, narrowed := true }
def FnExactMendMostUptoSaid : Prop := fnExactMendMostUptoRow.holds Try.pinned (OpenSpec.upto fnExactMendMostSpec)

/-- 'laws.FnExactSharesMend', WHERE WHAT IT READS IS OF BULK AT MOST 1048576: true; the input reads as it did. -/
def fnExactSharesMendUptoRow : OpenClaim := { program := "ytjpjmlcmaombnaa", sum := "73ad1b236b35158f1bf158a5dd315ae1f0e65a1cac0033121cb408b006a13aa6", func := "loop.example/underveil/laws.FnExactSharesMend", spec := "fnExactSharesMend", unfollowed := true, recurses := true, plainKeys := false, apart := false, narrowed := true }
def FnExactSharesMendUptoSaid : Prop := fnExactSharesMendUptoRow.holds Try.pinned (OpenSpec.upto fnExactSharesMendSpec)

/-- 'laws.FnExactSharesWrong', WHERE WHAT IT READS IS OF BULK AT MOST 1048576: true; the input reads as it did. -/
def fnExactSharesWrongUptoRow : OpenClaim := { program := "ytjpjmlcmaombnaa", sum := "73ad1b236b35158f1bf158a5dd315ae1f0e65a1cac0033121cb408b006a13aa6", func := "loop.example/underveil/laws.FnExactSharesWrong", spec := "fnExactSharesWrong", plainKeys := false, apart := false, narrowed := true }
def FnExactSharesWrongUptoSaid : Prop := fnExactSharesWrongUptoRow.holds Try.pinned (OpenSpec.upto fnExactSharesWrongSpec)

/-- 'laws.FnExactCommit', WHERE WHAT IT READS IS OF BULK AT MOST 1048576: true; the input reads as it did. -/
def fnExactCommitUptoRow : OpenClaim := { program := "ytjpjmlcmaombnaa", sum := "73ad1b236b35158f1bf158a5dd315ae1f0e65a1cac0033121cb408b006a13aa6", func := "loop.example/underveil/laws.FnExactCommit", spec := "fnExactCommit", plainKeys := false, apart := false, narrowed := true }
def FnExactCommitUptoSaid : Prop := fnExactCommitUptoRow.holds Try.pinned (OpenSpec.upto fnExactCommitSpec)

/-- 'laws.FnExactCommitOpen', WHERE WHAT IT READS IS OF BULK AT MOST 1048576: true; the input reads as it did. -/
def fnExactCommitOpenUptoRow : OpenClaim := { program := "ytjpjmlcmaombnaa", sum := "73ad1b236b35158f1bf158a5dd315ae1f0e65a1cac0033121cb408b006a13aa6", func := "loop.example/underveil/laws.FnExactCommitOpen", spec := "fnExactCommitOpen", plainKeys := false, apart := false, narrowed := true }
def FnExactCommitOpenUptoSaid : Prop := fnExactCommitOpenUptoRow.holds Try.pinned (OpenSpec.upto fnExactCommitOpenSpec)

/-- 'laws.FnExactTrapdoor', WHERE WHAT IT READS IS OF BULK AT MOST 1048576: true; the input reads as it did. -/
def fnExactTrapdoorUptoRow : OpenClaim := { program := "ytjpjmlcmaombnaa", sum := "73ad1b236b35158f1bf158a5dd315ae1f0e65a1cac0033121cb408b006a13aa6", func := "loop.example/underveil/laws.FnExactTrapdoor", spec := "fnExactTrapdoor", plainKeys := false, apart := false, narrowed := true }
def FnExactTrapdoorUptoSaid : Prop := fnExactTrapdoorUptoRow.holds Try.pinned (OpenSpec.upto fnExactTrapdoorSpec)

/-- 'laws.FnExactCommitTurn', WHERE WHAT IT READS IS OF BULK AT MOST 1048576: true; the input reads as it did. -/
def fnExactCommitTurnUptoRow : OpenClaim := { program := "ytjpjmlcmaombnaa", sum := "73ad1b236b35158f1bf158a5dd315ae1f0e65a1cac0033121cb408b006a13aa6", func := "loop.example/underveil/laws.FnExactCommitTurn", spec := "fnExactCommitTurn", plainKeys := false, apart := false, narrowed := true }
def FnExactCommitTurnUptoSaid : Prop := fnExactCommitTurnUptoRow.holds Try.pinned (OpenSpec.upto fnExactCommitTurnSpec)

/-- 'laws.FnExactCommitBreak', WHERE WHAT IT READS IS OF BULK AT MOST 1048576: true; the input reads as it did. -/
def fnExactCommitBreakUptoRow : OpenClaim := { program := "ytjpjmlcmaombnaa", sum := "73ad1b236b35158f1bf158a5dd315ae1f0e65a1cac0033121cb408b006a13aa6", func := "loop.example/underveil/laws.FnExactCommitBreak", spec := "fnExactCommitBreak", plainKeys := false, apart := false, narrowed := true }
def FnExactCommitBreakUptoSaid : Prop := fnExactCommitBreakUptoRow.holds Try.pinned (OpenSpec.upto fnExactCommitBreakSpec)

/-- 'laws.FnExactPublish', WHERE WHAT IT READS IS OF BULK AT MOST 1048576: true; the input reads as it did. -/
def fnExactPublishUptoRow : OpenClaim := { program := "ytjpjmlcmaombnaa", sum := "73ad1b236b35158f1bf158a5dd315ae1f0e65a1cac0033121cb408b006a13aa6", func := "loop.example/underveil/laws.FnExactPublish", spec := "fnExactPublish", plainKeys := false, apart := false, narrowed := true }
def FnExactPublishUptoSaid : Prop := fnExactPublishUptoRow.holds Try.pinned (OpenSpec.upto fnExactPublishSpec)

/-- 'laws.FnExactShareCheck', WHERE WHAT IT READS IS OF BULK AT MOST 1048576: true; the input reads as it did. -/
def fnExactShareCheckUptoRow : OpenClaim := { program := "ytjpjmlcmaombnaa", sum := "73ad1b236b35158f1bf158a5dd315ae1f0e65a1cac0033121cb408b006a13aa6", func := "loop.example/underveil/laws.FnExactShareCheck", spec := "fnExactShareCheck", plainKeys := false, apart := false, narrowed := true }
def FnExactShareCheckUptoSaid : Prop := fnExactShareCheckUptoRow.holds Try.pinned (OpenSpec.upto fnExactShareCheckSpec)

/-- 'laws.FnSeenAlike', WHERE WHAT IT READS IS OF BULK AT MOST 1048576: true; the input reads as it did. -/
def fnSeenAlikeUptoRow : OpenClaim := { program := "ytjpjmlcmaombnaa", sum := "73ad1b236b35158f1bf158a5dd315ae1f0e65a1cac0033121cb408b006a13aa6", func := "loop.example/underveil/laws.FnSeenAlike", spec := "fnSeenAlike", unfollowed := true, recurses := true, plainKeys := false, apart := false, narrowed := true }
def FnSeenAlikeUptoSaid : Prop := fnSeenAlikeUptoRow.holds Try.pinned (OpenSpec.upto fnSeenAlikeSpec)

/-- 'laws.FnMendMost', WHERE WHAT IT READS IS OF BULK AT MOST 1048576: true; the input reads as it did. -/
def fnMendMostUptoRow : OpenClaim := { program := "ytjpjmlcmaombnaa", sum := "73ad1b236b35158f1bf158a5dd315ae1f0e65a1cac0033121cb408b006a13aa6", func := "loop.example/underveil/laws.FnMendMost", spec := "fnMendMost", plainKeys := false, apart := false, narrowed := true }
def FnMendMostUptoSaid : Prop := fnMendMostUptoRow.holds Try.pinned (OpenSpec.upto fnMendMostSpec)

/-- 'laws.FnMendAll', WHERE WHAT IT READS IS OF BULK AT MOST 1048576: true; the input reads as it did. -/
def fnMendAllUptoRow : OpenClaim := { program := "ytjpjmlcmaombnaa", sum := "73ad1b236b35158f1bf158a5dd315ae1f0e65a1cac0033121cb408b006a13aa6", func := "loop.example/underveil/laws.FnMendAll", spec := "fnMendAll", unfollowed := true, recurses := true, plainKeys := false, apart := false, narrowed := true }
def FnMendAllUptoSaid : Prop := fnMendAllUptoRow.holds Try.pinned (OpenSpec.upto fnMendAllSpec)

/-- 'laws.FnCommit', WHERE WHAT IT READS IS OF BULK AT MOST 1048576: true; the input reads as it did. -/
def fnCommitUptoRow : OpenClaim := { program := "ytjpjmlcmaombnaa", sum := "73ad1b236b35158f1bf158a5dd315ae1f0e65a1cac0033121cb408b006a13aa6", func := "loop.example/underveil/laws.FnCommit", spec := "fnCommit", plainKeys := false, apart := false, narrowed := true }
def FnCommitUptoSaid : Prop := fnCommitUptoRow.holds Try.pinned (OpenSpec.upto fnCommitSpec)

/-- 'laws.FnTrapdoor', WHERE WHAT IT READS IS OF BULK AT MOST 1048576: true; the input reads as it did. -/
def fnTrapdoorUptoRow : OpenClaim := { program := "ytjpjmlcmaombnaa", sum := "73ad1b236b35158f1bf158a5dd315ae1f0e65a1cac0033121cb408b006a13aa6", func := "loop.example/underveil/laws.FnTrapdoor", spec := "fnTrapdoor", plainKeys := false, apart := false, narrowed := true }
def FnTrapdoorUptoSaid : Prop := fnTrapdoorUptoRow.holds Try.pinned (OpenSpec.upto fnTrapdoorSpec)

/-- 'laws.FnCommitTurn', WHERE WHAT IT READS IS OF BULK AT MOST 1048576: true; the input reads as it did. -/
def fnCommitTurnUptoRow : OpenClaim := { program := "ytjpjmlcmaombnaa", sum := "73ad1b236b35158f1bf158a5dd315ae1f0e65a1cac0033121cb408b006a13aa6", func := "loop.example/underveil/laws.FnCommitTurn", spec := "fnCommitTurn", plainKeys := false, apart := false, narrowed := true }
def FnCommitTurnUptoSaid : Prop := fnCommitTurnUptoRow.holds Try.pinned (OpenSpec.upto fnCommitTurnSpec)

/-- 'laws.FnCommitBreak', WHERE WHAT IT READS IS OF BULK AT MOST 1048576: true; the input reads as it did. -/
def fnCommitBreakUptoRow : OpenClaim := { program := "ytjpjmlcmaombnaa", sum := "73ad1b236b35158f1bf158a5dd315ae1f0e65a1cac0033121cb408b006a13aa6", func := "loop.example/underveil/laws.FnCommitBreak", spec := "fnCommitBreak", plainKeys := false, apart := false, narrowed := true }
def FnCommitBreakUptoSaid : Prop := fnCommitBreakUptoRow.holds Try.pinned (OpenSpec.upto fnCommitBreakSpec)

end Rows
end Go.Proofs.Ytjpjmlcmaombnaa

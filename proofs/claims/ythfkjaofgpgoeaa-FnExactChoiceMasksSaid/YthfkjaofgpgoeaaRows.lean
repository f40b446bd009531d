/-
  No cell of these rows narrows 'for every input' (looked for: loops, veiled, ifaces, maps, wideKeys, modest, calm, conditions, laid).
  DERIVED. THE GIVEN ROWS OF THIS SEAT. 20 by the template 'for every input the law returns true; each argument reads behind the call as it read before'; 0 by the template 'total and deterministic' (their statements: YthfkjaofgpgoeaaTotals.lean).
  GIVEN WITH THE SEED: the statements are not yours to turn. If you find one false, say at which input.
  Laid BY PROGRAM, IN A SANDBOX (cutbox-rows.mjs): the forced cells as the released guide's own fill.sh prints them over the translation 42ce6c2ecde69999… (all of the seat's roots in one cut). By AI agents, Wed Nov 11 2026. No macro, syntax, notation, axiom, sorry.
-/
import Derived.Test.YthfkjaofgpgoeaaChecked
import GoSem.Claim
import GoSem.ClaimJoined
import GoSem.ClaimMapViews
import Derived.JoinedTies
import Derived.KernelRfl
namespace Go.Proofs.Ythfkjaofgpgoeaa
/- THE CELL 'sum', in the pinned program and in every row, IS THE sha256 OF THE DUMP (.gsa) THAT YthfkjaofgpgoeaaProg.lean LOADS. Nothing in Lean hashes anything: it is a label: what it is worth is what the hold of that sum in a sandbox is worth. -/
noncomputable def Try.pinned : Pinned := { name := "ythfkjaofgpgoeaa", sum := "42ce6c2ecde6999977cf46ef2467738df2b04e02b82c120479b7f4fc76bfe93d", checked := Try.checked }
namespace Rows
def none {H : Type} : Left H := { results := [], args := [] }

/-- 'laws.FnExactMarkedMake': WHATEVER THE INPUT: true; the input reads as it did. -/
def fnExactMarkedMakeSpec : ChangeSpec := { name := "fnExactMarkedMake", fn := fun _ => fun
  | [d1, d2, d3, d4] => { results := [.lit (.bool true)], args := [d1, d2, d3, d4] }
  | _ => none }
def fnExactMarkedMakeRow : OpenClaim := { program := "ythfkjaofgpgoeaa", sum := "42ce6c2ecde6999977cf46ef2467738df2b04e02b82c120479b7f4fc76bfe93d", func := "loop.example/underveil/laws.FnExactMarkedMake", spec := "fnExactMarkedMake", apart := false }
def FnExactMarkedMakeSaid : Prop := fnExactMarkedMakeRow.holds Try.pinned (OpenSpec.ofChange fnExactMarkedMakeSpec)

/-- ITS FALSE NEIGHBOUR: 'it returns false'. Refute it at one input. -/
def fnExactMarkedMakeWrong : ChangeSpec := { name := "fnExactMarkedMake", fn := fun _ => fun
  | [d1, d2, d3, d4] => { results := [.lit (.bool false)], args := [d1, d2, d3, d4] }
  | _ => none }
def FnExactMarkedMakeWrongFalsely : Prop := fnExactMarkedMakeRow.holds Try.pinned (OpenSpec.ofChange fnExactMarkedMakeWrong)

/-- 'laws.FnExactMarkedOk': WHATEVER THE INPUT: true; the input reads as it did. -/
def fnExactMarkedOkSpec : ChangeSpec := { name := "fnExactMarkedOk", fn := fun _ => fun
  | [d] => { results := [.lit (.bool true)], args := [d] }
  | _ => none }
def fnExactMarkedOkRow : OpenClaim := { program := "ythfkjaofgpgoeaa", sum := "42ce6c2ecde6999977cf46ef2467738df2b04e02b82c120479b7f4fc76bfe93d", func := "loop.example/underveil/laws.FnExactMarkedOk", spec := "fnExactMarkedOk", apart := false }
def FnExactMarkedOkSaid : Prop := fnExactMarkedOkRow.holds Try.pinned (OpenSpec.ofChange fnExactMarkedOkSpec)

/-- ITS FALSE NEIGHBOUR: 'it returns false'. Refute it at one input. -/
def fnExactMarkedOkWrong : ChangeSpec := { name := "fnExactMarkedOk", fn := fun _ => fun
  | [d] => { results := [.lit (.bool false)], args := [d] }
  | _ => none }
def FnExactMarkedOkWrongFalsely : Prop := fnExactMarkedOkRow.holds Try.pinned (OpenSpec.ofChange fnExactMarkedOkWrong)

/-- 'laws.FnExactMarkedSum': WHATEVER THE INPUT: true; the input reads as it did. -/
def fnExactMarkedSumSpec : ChangeSpec := { name := "fnExactMarkedSum", fn := fun _ => fun
  | [d] => { results := [.lit (.bool true)], args := [d] }
  | _ => none }
def fnExactMarkedSumRow : OpenClaim := { program := "ythfkjaofgpgoeaa", sum := "42ce6c2ecde6999977cf46ef2467738df2b04e02b82c120479b7f4fc76bfe93d", func := "loop.example/underveil/laws.FnExactMarkedSum", spec := "fnExactMarkedSum", apart := false }
def FnExactMarkedSumSaid : Prop := fnExactMarkedSumRow.holds Try.pinned (OpenSpec.ofChange fnExactMarkedSumSpec)

/-- ITS FALSE NEIGHBOUR: 'it returns false'. Refute it at one input. -/
def fnExactMarkedSumWrong : ChangeSpec := { name := "fnExactMarkedSum", fn := fun _ => fun
  | [d] => { results := [.lit (.bool false)], args := [d] }
  | _ => none }
def FnExactMarkedSumWrongFalsely : Prop := fnExactMarkedSumRow.holds Try.pinned (OpenSpec.ofChange fnExactMarkedSumWrong)

/-- 'laws.FnExactMarkedCheck': WHATEVER THE INPUT: true; the input reads as it did. -/
def fnExactMarkedCheckSpec : ChangeSpec := { name := "fnExactMarkedCheck", fn := fun _ => fun
  | [d1, d2] => { results := [.lit (.bool true)], args := [d1, d2] }
  | _ => none }
def fnExactMarkedCheckRow : OpenClaim := { program := "ythfkjaofgpgoeaa", sum := "42ce6c2ecde6999977cf46ef2467738df2b04e02b82c120479b7f4fc76bfe93d", func := "loop.example/underveil/laws.FnExactMarkedCheck", spec := "fnExactMarkedCheck", apart := false }
def FnExactMarkedCheckSaid : Prop := fnExactMarkedCheckRow.holds Try.pinned (OpenSpec.ofChange fnExactMarkedCheckSpec)

/-- ITS FALSE NEIGHBOUR: 'it returns false'. Refute it at one input. -/
def fnExactMarkedCheckWrong : ChangeSpec := { name := "fnExactMarkedCheck", fn := fun _ => fun
  | [d1, d2] => { results := [.lit (.bool false)], args := [d1, d2] }
  | _ => none }
def FnExactMarkedCheckWrongFalsely : Prop := fnExactMarkedCheckRow.holds Try.pinned (OpenSpec.ofChange fnExactMarkedCheckWrong)

/-- 'laws.FnExactMarkedAdd': WHATEVER THE INPUT: true; the input reads as it did. -/
def fnExactMarkedAddSpec : ChangeSpec := { name := "fnExactMarkedAdd", fn := fun _ => fun
  | [d1, d2] => { results := [.lit (.bool true)], args := [d1, d2] }
  | _ => none }
def fnExactMarkedAddRow : OpenClaim := { program := "ythfkjaofgpgoeaa", sum := "42ce6c2ecde6999977cf46ef2467738df2b04e02b82c120479b7f4fc76bfe93d", func := "loop.example/underveil/laws.FnExactMarkedAdd", spec := "fnExactMarkedAdd", apart := false }
def FnExactMarkedAddSaid : Prop := fnExactMarkedAddRow.holds Try.pinned (OpenSpec.ofChange fnExactMarkedAddSpec)

/-- ITS FALSE NEIGHBOUR: 'it returns false'. Refute it at one input. -/
def fnExactMarkedAddWrong : ChangeSpec := { name := "fnExactMarkedAdd", fn := fun _ => fun
  | [d1, d2] => { results := [.lit (.bool false)], args := [d1, d2] }
  | _ => none }
def FnExactMarkedAddWrongFalsely : Prop := fnExactMarkedAddRow.holds Try.pinned (OpenSpec.ofChange fnExactMarkedAddWrong)

/-- 'laws.FnExactMarkedScale': WHATEVER THE INPUT: true; the input reads as it did. -/
def fnExactMarkedScaleSpec : ChangeSpec := { name := "fnExactMarkedScale", fn := fun _ => fun
  | [d1, d2] => { results := [.lit (.bool true)], args := [d1, d2] }
  | _ => none }
def fnExactMarkedScaleRow : OpenClaim := { program := "ythfkjaofgpgoeaa", sum := "42ce6c2ecde6999977cf46ef2467738df2b04e02b82c120479b7f4fc76bfe93d", func := "loop.example/underveil/laws.FnExactMarkedScale", spec := "fnExactMarkedScale", apart := false }
def FnExactMarkedScaleSaid : Prop := fnExactMarkedScaleRow.holds Try.pinned (OpenSpec.ofChange fnExactMarkedScaleSpec)

/-- ITS FALSE NEIGHBOUR: 'it returns false'. Refute it at one input. -/
def fnExactMarkedScaleWrong : ChangeSpec := { name := "fnExactMarkedScale", fn := fun _ => fun
  | [d1, d2] => { results := [.lit (.bool false)], args := [d1, d2] }
  | _ => none }
def FnExactMarkedScaleWrongFalsely : Prop := fnExactMarkedScaleRow.holds Try.pinned (OpenSpec.ofChange fnExactMarkedScaleWrong)

/-- 'laws.FnExactMarkedShift': WHATEVER THE INPUT: true; the input reads as it did. -/
def fnExactMarkedShiftSpec : ChangeSpec := { name := "fnExactMarkedShift", fn := fun _ => fun
  | [d1, d2, d3] => { results := [.lit (.bool true)], args := [d1, d2, d3] }
  | _ => none }
def fnExactMarkedShiftRow : OpenClaim := { program := "ythfkjaofgpgoeaa", sum := "42ce6c2ecde6999977cf46ef2467738df2b04e02b82c120479b7f4fc76bfe93d", func := "loop.example/underveil/laws.FnExactMarkedShift", spec := "fnExactMarkedShift", apart := false }
def FnExactMarkedShiftSaid : Prop := fnExactMarkedShiftRow.holds Try.pinned (OpenSpec.ofChange fnExactMarkedShiftSpec)

/-- ITS FALSE NEIGHBOUR: 'it returns false'. Refute it at one input. -/
def fnExactMarkedShiftWrong : ChangeSpec := { name := "fnExactMarkedShift", fn := fun _ => fun
  | [d1, d2, d3] => { results := [.lit (.bool false)], args := [d1, d2, d3] }
  | _ => none }
def FnExactMarkedShiftWrongFalsely : Prop := fnExactMarkedShiftRow.holds Try.pinned (OpenSpec.ofChange fnExactMarkedShiftWrong)

/-- 'laws.FnExactMarkedProduct': WHATEVER THE INPUT: true; the input reads as it did. -/
def fnExactMarkedProductSpec : ChangeSpec := { name := "fnExactMarkedProduct", fn := fun _ => fun
  | [d1, d2, d3, d4, d5, d6] => { results := [.lit (.bool true)], args := [d1, d2, d3, d4, d5, d6] }
  | _ => none }
def fnExactMarkedProductRow : OpenClaim := { program := "ythfkjaofgpgoeaa", sum := "42ce6c2ecde6999977cf46ef2467738df2b04e02b82c120479b7f4fc76bfe93d", func := "loop.example/underveil/laws.FnExactMarkedProduct", spec := "fnExactMarkedProduct", apart := false }
def FnExactMarkedProductSaid : Prop := fnExactMarkedProductRow.holds Try.pinned (OpenSpec.ofChange fnExactMarkedProductSpec)

/-- ITS FALSE NEIGHBOUR: 'it returns false'. Refute it at one input. -/
def fnExactMarkedProductWrong : ChangeSpec := { name := "fnExactMarkedProduct", fn := fun _ => fun
  | [d1, d2, d3, d4, d5, d6] => { results := [.lit (.bool false)], args := [d1, d2, d3, d4, d5, d6] }
  | _ => none }
def FnExactMarkedProductWrongFalsely : Prop := fnExactMarkedProductRow.holds Try.pinned (OpenSpec.ofChange fnExactMarkedProductWrong)

/-- 'laws.FnExactDealOk': WHATEVER THE INPUT: true; the input reads as it did. -/
def fnExactDealOkSpec : ChangeSpec := { name := "fnExactDealOk", fn := fun _ => fun
  | [d] => { results := [.lit (.bool true)], args := [d] }
  | _ => none }
def fnExactDealOkRow : OpenClaim := { program := "ythfkjaofgpgoeaa", sum := "42ce6c2ecde6999977cf46ef2467738df2b04e02b82c120479b7f4fc76bfe93d", func := "loop.example/underveil/laws.FnExactDealOk", spec := "fnExactDealOk", apart := false }
def FnExactDealOkSaid : Prop := fnExactDealOkRow.holds Try.pinned (OpenSpec.ofChange fnExactDealOkSpec)

/-- ITS FALSE NEIGHBOUR: 'it returns false'. Refute it at one input. -/
def fnExactDealOkWrong : ChangeSpec := { name := "fnExactDealOk", fn := fun _ => fun
  | [d] => { results := [.lit (.bool false)], args := [d] }
  | _ => none }
def FnExactDealOkWrongFalsely : Prop := fnExactDealOkRow.holds Try.pinned (OpenSpec.ofChange fnExactDealOkWrong)

/-- 'laws.FnExactChoiceAsk': WHATEVER THE INPUT: true; the input reads as it did. -/
def fnExactChoiceAskSpec : ChangeSpec := { name := "fnExactChoiceAsk", fn := fun _ => fun
  | [d1, d2] => { results := [.lit (.bool true)], args := [d1, d2] }
  | _ => none }
def fnExactChoiceAskRow : OpenClaim := { program := "ythfkjaofgpgoeaa", sum := "42ce6c2ecde6999977cf46ef2467738df2b04e02b82c120479b7f4fc76bfe93d", func := "loop.example/underveil/laws.FnExactChoiceAsk", spec := "fnExactChoiceAsk", apart := false }
def FnExactChoiceAskSaid : Prop := fnExactChoiceAskRow.holds Try.pinned (OpenSpec.ofChange fnExactChoiceAskSpec)

/-- ITS FALSE NEIGHBOUR: 'it returns false'. Refute it at one input. -/
def fnExactChoiceAskWrong : ChangeSpec := { name := "fnExactChoiceAsk", fn := fun _ => fun
  | [d1, d2] => { results := [.lit (.bool false)], args := [d1, d2] }
  | _ => none }
def FnExactChoiceAskWrongFalsely : Prop := fnExactChoiceAskRow.holds Try.pinned (OpenSpec.ofChange fnExactChoiceAskWrong)

/-- 'laws.FnExactChoiceAnswer': WHATEVER THE INPUT: true; the input reads as it did. -/
def fnExactChoiceAnswerSpec : ChangeSpec := { name := "fnExactChoiceAnswer", fn := fun _ => fun
  | [d1, d2, d3] => { results := [.lit (.bool true)], args := [d1, d2, d3] }
  | _ => none }
def fnExactChoiceAnswerRow : OpenClaim := { program := "ythfkjaofgpgoeaa", sum := "42ce6c2ecde6999977cf46ef2467738df2b04e02b82c120479b7f4fc76bfe93d", func := "loop.example/underveil/laws.FnExactChoiceAnswer", spec := "fnExactChoiceAnswer", unfollowed := true, recurses := true, apart := false }
def FnExactChoiceAnswerSaid : Prop := fnExactChoiceAnswerRow.holds Try.pinned (OpenSpec.ofChange fnExactChoiceAnswerSpec)

/-- ITS FALSE NEIGHBOUR: 'it returns false'. Refute it at one input. -/
def fnExactChoiceAnswerWrong : ChangeSpec := { name := "fnExactChoiceAnswer", fn := fun _ => fun
  | [d1, d2, d3] => { results := [.lit (.bool false)], args := [d1, d2, d3] }
  | _ => none }
def FnExactChoiceAnswerWrongFalsely : Prop := fnExactChoiceAnswerRow.holds Try.pinned (OpenSpec.ofChange fnExactChoiceAnswerWrong)

/-- 'laws.FnExactChoiceTake': WHATEVER THE INPUT: true; the input reads as it did. -/
def fnExactChoiceTakeSpec : ChangeSpec := { name := "fnExactChoiceTake", fn := fun _ => fun
  | [d1, d2, d3] => { results := [.lit (.bool true)], args := [d1, d2, d3] }
  | _ => none }
def fnExactChoiceTakeRow : OpenClaim := { program := "ythfkjaofgpgoeaa", sum := "42ce6c2ecde6999977cf46ef2467738df2b04e02b82c120479b7f4fc76bfe93d", func := "loop.example/underveil/laws.FnExactChoiceTake", spec := "fnExactChoiceTake", unfollowed := true, recurses := true, apart := false }
def FnExactChoiceTakeSaid : Prop := fnExactChoiceTakeRow.holds Try.pinned (OpenSpec.ofChange fnExactChoiceTakeSpec)

/-- ITS FALSE NEIGHBOUR: 'it returns false'. Refute it at one input. -/
def fnExactChoiceTakeWrong : ChangeSpec := { name := "fnExactChoiceTake", fn := fun _ => fun
  | [d1, d2, d3] => { results := [.lit (.bool false)], args := [d1, d2, d3] }
  | _ => none }
def FnExactChoiceTakeWrongFalsely : Prop := fnExactChoiceTakeRow.holds Try.pinned (OpenSpec.ofChange fnExactChoiceTakeWrong)

/-- 'laws.FnExactChoicePlace': WHATEVER THE INPUT: true; the input reads as it did. -/
def fnExactChoicePlaceSpec : ChangeSpec := { name := "fnExactChoicePlace", fn := fun _ => fun
  | [d1, d2, d3] => { results := [.lit (.bool true)], args := [d1, d2, d3] }
  | _ => none }
def fnExactChoicePlaceRow : OpenClaim := { program := "ythfkjaofgpgoeaa", sum := "42ce6c2ecde6999977cf46ef2467738df2b04e02b82c120479b7f4fc76bfe93d", func := "loop.example/underveil/laws.FnExactChoicePlace", spec := "fnExactChoicePlace", apart := false }
def FnExactChoicePlaceSaid : Prop := fnExactChoicePlaceRow.holds Try.pinned (OpenSpec.ofChange fnExactChoicePlaceSpec)

/-- ITS FALSE NEIGHBOUR: 'it returns false'. Refute it at one input. -/
def fnExactChoicePlaceWrong : ChangeSpec := { name := "fnExactChoicePlace", fn := fun _ => fun
  | [d1, d2, d3] => { results := [.lit (.bool false)], args := [d1, d2, d3] }
  | _ => none }
def FnExactChoicePlaceWrongFalsely : Prop := fnExactChoicePlaceRow.holds Try.pinned (OpenSpec.ofChange fnExactChoicePlaceWrong)

/-- 'laws.FnExactChoiceMasks': WHATEVER THE INPUT: true; the input reads as it did. -/
def fnExactChoiceMasksSpec : ChangeSpec := { name := "fnExactChoiceMasks", fn := fun _ => fun
  | [d1, d2, d3, d4] => { results := [.lit (.bool true)], args := [d1, d2, d3, d4] }
  | _ => none }
def fnExactChoiceMasksRow : OpenClaim := { program := "ythfkjaofgpgoeaa", sum := "42ce6c2ecde6999977cf46ef2467738df2b04e02b82c120479b7f4fc76bfe93d", func := "loop.example/underveil/laws.FnExactChoiceMasks", spec := "fnExactChoiceMasks", unfollowed := true, recurses := true, apart := false }
def FnExactChoiceMasksSaid : Prop := fnExactChoiceMasksRow.holds Try.pinned (OpenSpec.ofChange fnExactChoiceMasksSpec)

/-- ITS FALSE NEIGHBOUR: 'it returns false'. Refute it at one input. -/
def fnExactChoiceMasksWrong : ChangeSpec := { name := "fnExactChoiceMasks", fn := fun _ => fun
  | [d1, d2, d3, d4] => { results := [.lit (.bool false)], args := [d1, d2, d3, d4] }
  | _ => none }
def FnExactChoiceMasksWrongFalsely : Prop := fnExactChoiceMasksRow.holds Try.pinned (OpenSpec.ofChange fnExactChoiceMasksWrong)

/-- 'laws.FnMarkedMake': WHATEVER THE INPUT: true; the input reads as it did. -/
def fnMarkedMakeSpec : ChangeSpec := { name := "fnMarkedMake", fn := fun _ => fun
  | [d] => { results := [.lit (.bool true)], args := [d] }
  | _ => none }
def fnMarkedMakeRow : OpenClaim := { program := "ythfkjaofgpgoeaa", sum := "42ce6c2ecde6999977cf46ef2467738df2b04e02b82c120479b7f4fc76bfe93d", func := "loop.example/underveil/laws.FnMarkedMake", spec := "fnMarkedMake", apart := false }
def FnMarkedMakeSaid : Prop := fnMarkedMakeRow.holds Try.pinned (OpenSpec.ofChange fnMarkedMakeSpec)

/-- ITS FALSE NEIGHBOUR: 'it returns false'. Refute it at one input. -/
def fnMarkedMakeWrong : ChangeSpec := { name := "fnMarkedMake", fn := fun _ => fun
  | [d] => { results := [.lit (.bool false)], args := [d] }
  | _ => none }
def FnMarkedMakeWrongFalsely : Prop := fnMarkedMakeRow.holds Try.pinned (OpenSpec.ofChange fnMarkedMakeWrong)

/-- 'laws.FnMarkedCheck': WHATEVER THE INPUT: true; the input reads as it did. -/
def fnMarkedCheckSpec : ChangeSpec := { name := "fnMarkedCheck", fn := fun _ => fun
  | [d] => { results := [.lit (.bool true)], args := [d] }
  | _ => none }
def fnMarkedCheckRow : OpenClaim := { program := "ythfkjaofgpgoeaa", sum := "42ce6c2ecde6999977cf46ef2467738df2b04e02b82c120479b7f4fc76bfe93d", func := "loop.example/underveil/laws.FnMarkedCheck", spec := "fnMarkedCheck", apart := false }
def FnMarkedCheckSaid : Prop := fnMarkedCheckRow.holds Try.pinned (OpenSpec.ofChange fnMarkedCheckSpec)

/-- ITS FALSE NEIGHBOUR: 'it returns false'. Refute it at one input. -/
def fnMarkedCheckWrong : ChangeSpec := { name := "fnMarkedCheck", fn := fun _ => fun
  | [d] => { results := [.lit (.bool false)], args := [d] }
  | _ => none }
def FnMarkedCheckWrongFalsely : Prop := fnMarkedCheckRow.holds Try.pinned (OpenSpec.ofChange fnMarkedCheckWrong)

/-- 'laws.FnMarkedShift': WHATEVER THE INPUT: true; the input reads as it did. -/
def fnMarkedShiftSpec : ChangeSpec := { name := "fnMarkedShift", fn := fun _ => fun
  | [d] => { results := [.lit (.bool true)], args := [d] }
  | _ => none }
def fnMarkedShiftRow : OpenClaim := { program := "ythfkjaofgpgoeaa", sum := "42ce6c2ecde6999977cf46ef2467738df2b04e02b82c120479b7f4fc76bfe93d", func := "loop.example/underveil/laws.FnMarkedShift", spec := "fnMarkedShift", apart := false }
def FnMarkedShiftSaid : Prop := fnMarkedShiftRow.holds Try.pinned (OpenSpec.ofChange fnMarkedShiftSpec)

/-- ITS FALSE NEIGHBOUR: 'it returns false'. Refute it at one input. -/
def fnMarkedShiftWrong : ChangeSpec := { name := "fnMarkedShift", fn := fun _ => fun
  | [d] => { results := [.lit (.bool false)], args := [d] }
  | _ => none }
def FnMarkedShiftWrongFalsely : Prop := fnMarkedShiftRow.holds Try.pinned (OpenSpec.ofChange fnMarkedShiftWrong)

/-- 'laws.FnChoiceAnswer': WHATEVER THE INPUT: true; the input reads as it did. -/
def fnChoiceAnswerSpec : ChangeSpec := { name := "fnChoiceAnswer", fn := fun _ => fun
  | [d] => { results := [.lit (.bool true)], args := [d] }
  | _ => none }
def fnChoiceAnswerRow : OpenClaim := { program := "ythfkjaofgpgoeaa", sum := "42ce6c2ecde6999977cf46ef2467738df2b04e02b82c120479b7f4fc76bfe93d", func := "loop.example/underveil/laws.FnChoiceAnswer", spec := "fnChoiceAnswer", unfollowed := true, recurses := true, apart := false }
def FnChoiceAnswerSaid : Prop := fnChoiceAnswerRow.holds Try.pinned (OpenSpec.ofChange fnChoiceAnswerSpec)

/-- ITS FALSE NEIGHBOUR: 'it returns false'. Refute it at one input. -/
def fnChoiceAnswerWrong : ChangeSpec := { name := "fnChoiceAnswer", fn := fun _ => fun
  | [d] => { results := [.lit (.bool false)], args := [d] }
  | _ => none }
def FnChoiceAnswerWrongFalsely : Prop := fnChoiceAnswerRow.holds Try.pinned (OpenSpec.ofChange fnChoiceAnswerWrong)

/-- 'laws.FnChoiceWhole': WHATEVER THE INPUT: true; the input reads as it did. -/
def fnChoiceWholeSpec : ChangeSpec := { name := "fnChoiceWhole", fn := fun _ => fun
  | [d] => { results := [.lit (.bool true)], args := [d] }
  | _ => none }
def fnChoiceWholeRow : OpenClaim := { program := "ythfkjaofgpgoeaa", sum := "42ce6c2ecde6999977cf46ef2467738df2b04e02b82c120479b7f4fc76bfe93d", func := "loop.example/underveil/laws.FnChoiceWhole", spec := "fnChoiceWhole", unfollowed := true, recurses := true, apart := false }
def FnChoiceWholeSaid : Prop := fnChoiceWholeRow.holds Try.pinned (OpenSpec.ofChange fnChoiceWholeSpec)

/-- ITS FALSE NEIGHBOUR: 'it returns false'. Refute it at one input. -/
def fnChoiceWholeWrong : ChangeSpec := { name := "fnChoiceWhole", fn := fun _ => fun
  | [d] => { results := [.lit (.bool false)], args := [d] }
  | _ => none }
def FnChoiceWholeWrongFalsely : Prop := fnChoiceWholeRow.holds Try.pinned (OpenSpec.ofChange fnChoiceWholeWrong)

/-- 'laws.FnExactCircuitJoin': WHATEVER THE INPUT: true; the input reads as it did. -/
def fnExactCircuitJoinSpec : ChangeSpec := { name := "fnExactCircuitJoin", fn := fun _ => fun
  | [d1, d2] => { results := [.lit (.bool true)], args := [d1, d2] }
  | _ => none }
def fnExactCircuitJoinRow : OpenClaim := { program := "ythfkjaofgpgoeaa", sum := "42ce6c2ecde6999977cf46ef2467738df2b04e02b82c120479b7f4fc76bfe93d", func := "loop.example/underveil/laws.FnExactCircuitJoin", spec := "fnExactCircuitJoin", unfollowed := true, recurses := true, apart := false }
def FnExactCircuitJoinSaid : Prop := fnExactCircuitJoinRow.holds Try.pinned (OpenSpec.ofChange fnExactCircuitJoinSpec)

/-- ITS FALSE NEIGHBOUR: 'it returns false'. Refute it at one input. -/
def fnExactCircuitJoinWrong : ChangeSpec := { name := "fnExactCircuitJoin", fn := fun _ => fun
  | [d1, d2] => { results := [.lit (.bool false)], args := [d1, d2] }
  | _ => none }
def FnExactCircuitJoinWrongFalsely : Prop := fnExactCircuitJoinRow.holds Try.pinned (OpenSpec.ofChange fnExactCircuitJoinWrong)

/- THE SECOND FORM. 'bulk': how many values and letters a reading holds, each counted each time it is reached (what is shared counts as often as it is met; a slice's spare places count too). A statement '..UptoSaid' is the law's where the arguments, and the package variables that the reading takes, are together of bulk at most 1048576: NARROWER than '..Said'. Prove '..Said' where nothing that the law and all that it calls make is longer than what came in: it says more and counts as full. Else prove '..UptoSaid'. A law counts once. -/
mutual
def uptoBulk {H : Type} : DataW H → Nat
  | .lit (.string bytes) => bytes.length + 1
  | .lit _ => 1
  | .nil => 1
  | .ptr d => uptoBulk d + 1
  | .slice elems spare => uptoBulkAll elems + uptoBulkAll spare + 1
  | .agg parts => uptoBulkAll parts + 1
  | .iface _ d => uptoBulk d + 1
  | .map entries => uptoBulkEntries entries + 1
  | .held _ => 1
def uptoBulkAll {H : Type} : List (DataW H) → Nat
  | [] => 0
  | d :: r => uptoBulk d + uptoBulkAll r
def uptoBulkEntries {H : Type} : List (Lit × DataW H) → Nat
  | [] => 0
  | x :: r => uptoBulkEntry x + uptoBulkEntries r
def uptoBulkEntry {H : Type} : Lit × DataW H → Nat
  | (.string bytes, d) => bytes.length + uptoBulk d + 1
  | (_, d) => uptoBulk d + 1
 end
def uptoSmall : (H : Type) → List (DataW H) → Bool := fun _ ds => decide (uptoBulkAll ds ≤ 1048576)
def OpenSpec.upto (s : _root_.Go.ChangeSpec) : _root_.Go.OpenSpec := { _root_.Go.OpenSpec.ofChange s with cond := some uptoSmall }

/-- 'laws.FnExactMarkedMake', WHERE WHAT IT READS IS OF BULK AT MOST 1048576: true; the input reads as it did. -/
def fnExactMarkedMakeUptoRow : OpenClaim := { program := "ythfkjaofgpgoeaa", sum := "42ce6c2ecde6999977cf46ef2467738df2b04e02b82c120479b7f4fc76bfe93d", func := "loop.example/underveil/laws.FnExactMarkedMake", spec := "fnExactMarkedMake", apart := false, narrowed := true }
def FnExactMarkedMakeUptoSaid : Prop := fnExactMarkedMakeUptoRow.holds Try.pinned (OpenSpec.upto fnExactMarkedMakeSpec)

/-- 'laws.FnExactMarkedOk', WHERE WHAT IT READS IS OF BULK AT MOST 1048576: true; the input reads as it did. -/
def fnExactMarkedOkUptoRow : OpenClaim := { program := "ythfkjaofgpgoeaa", sum := "42ce6c2ecde6999977cf46ef2467738df2b04e02b82c120479b7f4fc76bfe93d", func := "loop.example/underveil/laws.FnExactMarkedOk", spec := "fnExactMarkedOk", apart := false, narrowed := true }
def FnExactMarkedOkUptoSaid : Prop := fnExactMarkedOkUptoRow.holds Try.pinned (OpenSpec.upto fnExactMarkedOkSpec)

/-- 'laws.FnExactMarkedSum', WHERE WHAT IT READS IS OF BULK AT MOST 1048576: true; the input reads as it did. -/
def fnExactMarkedSumUptoRow : OpenClaim := { program := "ythfkjaofgpgoeaa", sum := "42ce6c2ecde6999977cf46ef2467738df2b04e02b82c120479b7f4fc76bfe93d", func := "loop.example/underveil/laws.FnExactMarkedSum", spec := "fnExactMarkedSum", apart := false, narrowed := true }
def FnExactMarkedSumUptoSaid : Prop := fnExactMarkedSumUptoRow.holds Try.pinned (OpenSpec.upto fnExactMarkedSumSpec)

/-- 'laws.FnExactMarkedCheck', WHERE WHAT IT READS IS OF BULK AT MOST 1048576: true; the input reads as it did. -/
def fnExactMarkedCheckUptoRow : OpenClaim := { program := "ythfkjaofgpgoeaa", sum := "42ce6c2ecde6999977cf46ef2467738df2b04e02b82c120479b7f4fc76bfe93d", func := "loop.example/underveil/laws.FnExactMarkedCheck", spec := "fnExactMarkedCheck", apart := false, narrowed := true }
def FnExactMarkedCheckUptoSaid : Prop := fnExactMarkedCheckUptoRow.holds Try.pinned (OpenSpec.upto fnExactMarkedCheckSpec)

/-- 'laws.FnExactMarkedAdd', WHERE WHAT IT READS IS OF BULK AT MOST 1048576: true; the input reads as it did. -/
def fnExactMarkedAddUptoRow : OpenClaim := { program := "ythfkjaofgpgoeaa", sum := "42ce6c2ecde6999977cf46ef2467738df2b04e02b82c120479b7f4fc76bfe93d", func := "loop.example/underveil/laws.FnExactMarkedAdd", spec := "fnExactMarkedAdd", apart := false, narrowed := true }
def FnExactMarkedAddUptoSaid : Prop := fnExactMarkedAddUptoRow.holds Try.pinned (OpenSpec.upto fnExactMarkedAddSpec)

/-- 'laws.FnExactMarkedScale', WHERE WHAT IT READS IS OF BULK AT MOST 1048576: true; the input reads as it did. -/
def fnExactMarkedScaleUptoRow : OpenClaim := { program := "ythfkjaofgpgoeaa", sum := "42ce6c2ecde6999977cf46ef2467738df2b04e02b82c120479b7f4fc76bfe93d", func := "loop.example/underveil/laws.FnExactMarkedScale", spec := "fnExactMarkedScale", apart := false, narrowed := true }
def FnExactMarkedScaleUptoSaid : Prop := fnExactMarkedScaleUptoRow.holds Try.pinned (OpenSpec.upto fnExactMarkedScaleSpec)

/-- 'laws.FnExactMarkedShift', WHERE WHAT IT READS IS OF BULK AT MOST 1048576: true; the input reads as it did. -/
def fnExactMarkedShiftUptoRow : OpenClaim := { program := "ythfkjaofgpgoeaa", sum := "42ce6c2ecde6999977cf46ef2467738df2b04e02b82c120479b7f4fc76bfe93d", func := "loop.example/underveil/laws.FnExactMarkedShift", spec := "fnExactMarkedShift", apart := false, narrowed := true }
def FnExactMarkedShiftUptoSaid : Prop := fnExactMarkedShiftUptoRow.holds Try.pinned (OpenSpec.upto fnExactMarkedShiftSpec)

/-- 'laws.FnExactMarkedProduct', WHERE WHAT IT READS IS OF BULK AT MOST 1048576: true; the input reads as it did. -/
def fnExactMarkedProductUptoRow : OpenClaim := { program := "ythfkjaofgpgoeaa", sum := "42ce6c2ecde6999977cf46ef2467738df2b04e02b82c120479b7f4fc76bfe93d", func := "loop.example/underveil/laws.FnExactMarkedProduct", spec := "fnExactMarkedProduct", apart := false, narrowed := true }
def FnExactMarkedProductUptoSaid : Prop := fnExactMarkedProductUptoRow.holds Try.pinned (OpenSpec.upto fnExactMarkedProductSpec)

/-- 'laws.FnExactDealOk', WHERE WHAT IT READS IS OF BULK AT MOST 1048576: true; the input reads as it did. -/
def fnExactDealOkUptoRow : OpenClaim := { program := "ythfkjaofgpgoeaa", sum := "42ce6c2ecde6999977cf46ef2467738df2b04e02b82c120479b7f4fc76bfe93d", func := "loop.example/underveil/laws.FnExactDealOk", spec := "fnExactDealOk", apart := false, narrowed := true }
def FnExactDealOkUptoSaid : Prop := fnExactDealOkUptoRow.holds Try.pinned (OpenSpec.upto fnExactDealOkSpec)

/-- 'laws.FnExactChoiceAsk', WHERE WHAT IT READS IS OF BULK AT MOST 1048576: true; the input reads as it did. -/
def fnExactChoiceAskUptoRow : OpenClaim := { program := "ythfkjaofgpgoeaa", sum := "42ce6c2ecde6999977cf46ef2467738df2b04e02b82c120479b7f4fc76bfe93d", func := "loop.example/underveil/laws.FnExactChoiceAsk", spec := "fnExactChoiceAsk", apart := false, narrowed := true }
def FnExactChoiceAskUptoSaid : Prop := fnExactChoiceAskUptoRow.holds Try.pinned (OpenSpec.upto fnExactChoiceAskSpec)

/-- 'laws.FnExactChoiceAnswer', WHERE WHAT IT READS IS OF BULK AT MOST 1048576: true; the input reads as it did. -/
def fnExactChoiceAnswerUptoRow : OpenClaim := { program := "ythfkjaofgpgoeaa", sum := "42ce6c2ecde6999977cf46ef2467738df2b04e02b82c120479b7f4fc76bfe93d", func := "loop.example/underveil/laws.FnExactChoiceAnswer", spec := "fnExactChoiceAnswer", unfollowed := true, recurses := true, apart := false, narrowed := true }
def FnExactChoiceAnswerUptoSaid : Prop := fnExactChoiceAnswerUptoRow.holds Try.pinned (OpenSpec.upto fnExactChoiceAnswerSpec)

/-- 'laws.FnExactChoiceTake', WHERE WHAT IT READS IS OF BULK AT MOST 1048576: true; the input reads as it did. -/
def fnExactChoiceTakeUptoRow : OpenClaim := { program := "ythfkjaofgpgoeaa", sum := "42ce6c2ecde6999977cf46ef2467738df2b04e02b82c120479b7f4fc76bfe93d", func := "loop.example/underveil/laws.FnExactChoiceTake", spec := "fnExactChoiceTake", unfollowed := true, recurses := true, apart := false, narrowed := true }
def FnExactChoiceTakeUptoSaid : Prop := fnExactChoiceTakeUptoRow.holds Try.pinned (OpenSpec.upto fnExactChoiceTakeSpec)

/-- 'laws.FnExactChoicePlace', WHERE WHAT IT READS IS OF BULK AT MOST 1048576: true; the input reads as it did. -/
def fnExactChoicePlaceUptoRow : OpenClaim := { program := "ythfkjaofgpgoeaa", sum := "42ce6c2ecde6999977cf46ef2467738df2b04e02b82c120479b7f4fc76bfe93d", func := "loop.example/underveil/laws.FnExactChoicePlace", spec := "fnExactChoicePlace", apart := false, narrowed := true }
def FnExactChoicePlaceUptoSaid : Prop := fnExactChoicePlaceUptoRow.holds Try.pinned (OpenSpec.upto fnExactChoicePlaceSpec)

/-- 'laws.FnExactChoiceMasks', WHERE WHAT IT READS IS OF BULK AT MOST 1048576: true; the input reads as it did. -/
def fnExactChoiceMasksUptoRow : OpenClaim := { program := "ythfkjaofgpgoeaa", sum := "42ce6c2ecde6999977cf46ef2467738df2b04e02b82c120479b7f4fc76bfe93d", func := "loop.example/underveil/laws.FnExactChoiceMasks", spec := "fnExactChoiceMasks", unfollowed := true, recurses := true, apart := false, narrowed := true }
def FnExactChoiceMasksUptoSaid : Prop := fnExactChoiceMasksUptoRow.holds Try.pinned (OpenSpec.upto fnExactChoiceMasksSpec)

/-- 'laws.FnMarkedMake', WHERE WHAT IT READS IS OF BULK AT MOST 1048576: true; the input reads as it did. -/
def fnMarkedMakeUptoRow : OpenClaim := { program := "ythfkjaofgpgoeaa", sum := "42ce6c2ecde6999977cf46ef2467738df2b04e02b82c120479b7f4fc76bfe93d", func := "loop.example/underveil/laws.FnMarkedMake", spec := "fnMarkedMake", apart := false, narrowed := true }
def FnMarkedMakeUptoSaid : Prop := fnMarkedMakeUptoRow.holds Try.pinned (OpenSpec.upto fnMarkedMakeSpec)

/-- 'laws.FnMarkedCheck', WHERE WHAT IT READS IS OF BULK AT MOST 1048576: true; the input reads as it did. -/
def fnMarkedCheckUptoRow : OpenClaim := { program := "ythfkjaofgpgoeaa", sum := "42ce6c2ecde6999977cf46ef2467738df2b04e02b82c120479b7f4fc76bfe93d", func := "loop.example/underveil/laws.FnMarkedCheck", spec := "fnMarkedCheck", apart := false, narrowed := true }
def FnMarkedCheckUptoSaid : Prop := fnMarkedCheckUptoRow.holds Try.pinned (OpenSpec.upto fnMarkedCheckSpec)

/-- 'laws.FnMarkedShift', WHERE WHAT IT READS IS OF BULK AT MOST 1048576: true; the input reads as it did. -/
def fnMarkedShiftUptoRow : OpenClaim := { program := "ythfkjaofgpgoeaa", sum := "42ce6c2ecde6999977cf46ef2467738df2b04e02b82c120479b7f4fc76bfe93d", func := "loop.example/underveil/laws.FnMarkedShift", spec := "fnMarkedShift", apart := false, narrowed := true }
def FnMarkedShiftUptoSaid : Prop := fnMarkedShiftUptoRow.holds Try.pinned (OpenSpec.upto fnMarkedShiftSpec)

/-- 'laws.FnChoiceAnswer', WHERE WHAT IT READS IS OF BULK AT MOST 1048576: true; the input reads as it did. -/
def fnChoiceAnswerUptoRow : OpenClaim := { program := "ythfkjaofgpgoeaa", sum := "42ce6c2ecde6999977cf46ef2467738df2b04e02b82c120479b7f4fc76bfe93d", func := "loop.example/underveil/laws.FnChoiceAnswer", spec := "fnChoiceAnswer", unfollowed := true, recurses := true, apart := false, narrowed := true }
def FnChoiceAnswerUptoSaid : Prop := fnChoiceAnswerUptoRow.holds Try.pinned (OpenSpec.upto fnChoiceAnswerSpec)

/-- 'laws.FnChoiceWhole', WHERE WHAT IT READS IS OF BULK AT MOST 1048576: true; the input reads as it did. -/
def fnChoiceWholeUptoRow : OpenClaim := { program := "ythfkjaofgpgoeaa", sum := "42ce6c2ecde6999977cf46ef2467738df2b04e02b82c120479b7f4fc76bfe93d", func := "loop.example/underveil/laws.FnChoiceWhole", spec := "fnChoiceWhole", unfollowed := true, recurses := true, apart := false, narrowed := true }
def FnChoiceWholeUptoSaid : Prop := fnChoiceWholeUptoRow.holds Try.pinned (OpenSpec.upto fnChoiceWholeSpec)

/-- 'laws.FnExactCircuitJoin', WHERE WHAT IT READS IS OF BULK AT MOST 1048576: true; the input reads as it did. -/
def fnExactCircuitJoinUptoRow : OpenClaim := { program := "ythfkjaofgpgoeaa", sum := "42ce6c2ecde6999977cf46ef2467738df2b04e02b82c120479b7f4fc76bfe93d", func := "loop.example/underveil/laws.FnExactCircuitJoin", spec := "fnExactCircuitJoin", unfollowed := true, recurses := true, apart := false, narrowed := true }
def FnExactCircuitJoinUptoSaid : Prop := fnExactCircuitJoinUptoRow.holds Try.pinned (OpenSpec.upto fnExactCircuitJoinSpec)

end Rows
end Go.Proofs.Ythfkjaofgpgoeaa

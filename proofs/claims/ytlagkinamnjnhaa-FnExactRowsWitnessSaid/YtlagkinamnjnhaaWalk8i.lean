/- Chapter 8 in the model: values, outputs, depths, as the laws meet them. -/
import Derived.Test.YtlagkinamnjnhaaWalk8h
import Derived.Deep.RegionHeld3
import Derived.Test.YtlagkinamnjnhaaFace2b
namespace Go.Proofs.Ytlagkinamnjnhaa
open Go.RowKit
set_option maxRecDepth 100000

def R_CircuitValues_0 (d : Int × List (Int × Int × Int) × List Int) (ins : List Int) : List Int := if fitsB d ins then tellK (valG ins) d.2.1 d.2.1.length else []
def R_CircuitRun_0 (d : Int × List (Int × Int × Int) × List Int) (ins : List Int) : List Int := if fitsB d ins then outK d.2.2 (tellK (valG ins) d.2.1 d.2.1.length) d.2.2.length else []
theorem fits_iff {d : Int × List (Int × Int × Int) × List Int} {ins : List Int} (h : fitsB d ins = true) : circB d = true ∧ (ins.length : Int) = d.1 ∧ Nums ins := by
  unfold fitsB at h
  simp only [Bool.and_eq_true, decide_eq_true_eq] at h
  exact ⟨h.1, h.2.1, nums_of_B h.2.2⟩

end Go.Proofs.Ytlagkinamnjnhaa

/- Chapter 2: points that are good. -/
import Derived.Test.YtipdflbnnmghdaaMath2d
import Derived.Test.YtipdflbnnmghdaaPts
namespace Go.Proofs.Ytipdflbnnmghdaa
open Go.RowKit
set_option maxRecDepth 100000

theorem pxy {ps : List (Int × Int)} {k : Nat} {x y : Int} (h : ps.getD k (0, 0) = (x, y)) : px ps k = x ∧ py ps k = y := by simp only [px, py, h, and_self]
theorem ptsB_long {ps : List (Int × Int)} (h : ¬ ps.length ≤ 20) : ptsB ps = false := by simp [ptsB, h]
theorem ptsB_okK {ps : List (Int × Int)} (h : ps.length ≤ 20) : ptsB ps = okK ps ps.length := by simp [ptsB, h]
theorem okK_step (ps : List (Int × Int)) (k : Nat) : okK ps (k + 1) = (okK ps k && (numB (px ps k) && numB (py ps k)) && !(seenB ps k (px ps k))) := rfl

end Go.Proofs.Ytipdflbnnmghdaa

/- A point that a function returns in a cell of its own. Made by tools/gen17/a.py. -/
import Derived.Test.YtaiilopfdjbceaaBx0
import Derived.Deep.MidRow
import Derived.Test.YtaiilopfdjbceaaWalk5d
namespace Go.Proofs.Ytaiilopfdjbceaa
open Go.RowKit
set_option maxRecDepth 100000
theorem inforesPt : (Try.prog.info? 44).map (·.size) = some 2 := by kernel_rfl
theorem resPt1 {fn : Func} {t : Tmp} {tmps : Array Value} {w : World} {g : Nat} {a0 a1 : Value} (h : fn.results = #[.cell t 44]) (ht : tmps.getD t undef = .pointer (some ⟨g, 0, none⟩)) (hb : Bx w g #[a0, a1] 44) :
    (results fn tmps).run Try.prog w = .ok (.agg #[a0, a1]) w := by
  have hr : w.rangeAt g 0 [a0, a1] := fun j v hv => by
    rw [Nat.zero_add, cell_of_row w g j _ _ (0, 0) hb]; simpa using hv
  have := run_loadVar_mid (P := Try.prog) w g 0 44 [a0, a1] _ hr Try.underlying44 rfl inforesPt
  have ht2 : tmps[t]?.getD undef = .pointer (some ⟨g, 0, none⟩) := by rw [← ht]; simp
  simp [results, h, ht2, this, asAddr]
theorem resPt2 {fn : Func} {t u : Tmp} {tmps : Array Value} {w : World} {g : Nat} {a0 a1 x : Value} (h : fn.results = #[.cell t 44, .tmp u]) (ht : tmps.getD t undef = .pointer (some ⟨g, 0, none⟩)) (hu : tmps.getD u undef = x) (hb : Bx w g #[a0, a1] 44) :
    (results fn tmps).run Try.prog w = .ok (.tuple #[.agg #[a0, a1], x]) w := by
  have hr : w.rangeAt g 0 [a0, a1] := fun j v hv => by
    rw [Nat.zero_add, cell_of_row w g j _ _ (0, 0) hb]; simpa using hv
  have := run_loadVar_mid (P := Try.prog) w g 0 44 [a0, a1] _ hr Try.underlying44 rfl inforesPt
  have ht2 : tmps[t]?.getD undef = .pointer (some ⟨g, 0, none⟩) := by rw [← ht]; simp
  subst hu
  simp [results, h, ht2, this, asAddr]
end Go.Proofs.Ytaiilopfdjbceaa

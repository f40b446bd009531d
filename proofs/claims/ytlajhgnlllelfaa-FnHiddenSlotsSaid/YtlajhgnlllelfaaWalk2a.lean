/- Chapter 2: what is a polynomial; its value at a number. -/
import Derived.Test.YtlajhgnlllelfaaBase
import Derived.Test.YtlajhgnlllelfaaRows
import Derived.Test.YtlajhgnlllelfaaMath2
import Derived.Test.YtlajhgnlllelfaaWalk1
import Derived.BigQuiet
import Derived.Deep.QuietTactic
namespace Go.Proofs.Ytlajhgnlllelfaa
open Go.RowKit

theorem mul_bd (a b : Int) (h1 : 0 ≤ a) (h2 : a ≤ 112) (h3 : 0 ≤ b) (h4 : b ≤ 112) : 0 ≤ a * b ∧ a * b ≤ 12544 :=
  ⟨Int.mul_nonneg h1 h3, by
    have := Int.mul_le_mul (a := a) (b := b) (c := 112) (d := 112) h2 h4 h3 (by omega)
    omega⟩
theorem ret_bool {a b : Bool} (h : a = b) : Ending.returned (.bool a) = .returned (.bool b) := by rw [h]

/-- a call that leaves the world alone, met in a region that draws -/
theorem quiet_any {P : Program} {f : FuncId} {args : Array Value} {w : World} {v : Value} (h : Calls P f args w fun e w' => e = .returned v ∧ w = w') : Calls P f args w fun e w'' => e = .returned v ∧ ∃ m, w'' = w.drewN m :=
  h.mono fun _ _ ⟨he, hm⟩ => ⟨he, 0, hm.symm⟩
theorem quiet_drewN {P : Program} {f : FuncId} {args : Array Value} {w : World} {a : Nat} {v : Value} (h : Calls P f args (w.drewN a) fun e w' => e = .returned v ∧ w.drewN a = w') : Calls P f args (w.drewN a) fun e w'' => e = .returned v ∧ ∃ m, w'' = w.drewN m :=
  h.mono fun _ _ ⟨he, hm⟩ => ⟨he, a, hm.symm⟩

end Go.Proofs.Ytlajhgnlllelfaa

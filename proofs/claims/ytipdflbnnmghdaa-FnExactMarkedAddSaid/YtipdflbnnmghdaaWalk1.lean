/- The walks of chapter 1: what each function of the numbers and of the elements comes to, in the program and in the model. -/
import Derived.Test.YtipdflbnnmghdaaMath1
import Derived.Test.YtipdflbnnmghdaaRows
import Derived.WalkKit
import Derived.WalkSpells
import Derived.WalkLawsBesides
import Derived.Lib.Hide
namespace Go.Proofs.Ytipdflbnnmghdaa
open Go.RowKit

theorem ret_i {k : IntKind} {a b : Int} (h : a = b) : Ending.returned (.int k a) = .returned (.int k b) := by rw [h]

/-! ### one number -/
set_option maxHeartbeats 400000 in
theorem s_NumOk (a : Int) (w : World) :
    Calls Try.prog 83 #[.int .i64 a] w fun e w' => e = .returned (.bool (numB a)) ∧ w = w' := by
  by_cases h0 : 0 ≤ a
  all_goals by_cases h1 : a ≤ 112
  all_goals
    go_enter Try.func83, Try.ntmps83
    go_wp2
    go_ret
    exact ⟨by simp [numB, h0, h1], rfl⟩

set_option maxHeartbeats 400000 in
theorem i_NumOk (a : Int) (w : World) :
    Calls Try.prog 110 #[.int .i64 a] w fun e w' => e = .returned (.bool (numB a)) ∧ w = w' := by
  by_cases h0 : 0 ≤ a
  all_goals by_cases h1 : a < 113
  all_goals
    go_enter Try.func110, Try.ntmps110
    go_wp2
    go_ret
    exact ⟨by simp [numB]; omega, rfl⟩

/-! ### loops -/
/-- a power of BaseG that is not yet the element -/
def noLog (G E : Nat) : Prop := ∀ e, e < E → ¬ powN 4 e 227 = G
theorem noLog_0 (G : Nat) : noLog G 0 := by intro e h; omega
theorem noLog_succ {G E X : Nat} (h : noLog G E) (hx : X = powN 4 E 227) (hn : ¬ X = G) : noLog G (E + 1) := by
  intro e he
  by_cases hc : e = E
  · rw [hc, ← hx]; exact hn
  · exact h e (by omega)
theorem log_hit {G E X : Nat} (hE : E < 113) (hx : X = powN 4 E 227) (hn : X = G) : logI (G : Int) = E ∧ elB (G : Int) = true := by
  rw [← hn, hx]; exact ⟨by simp [logI, log_is E hE], log_el E hE⟩
theorem log_miss {G : Nat} (hG : G < 227) (h : noLog G 113) : elB (G : Int) = false := by
  cases hb : elB (G : Int) with
  | false => rfl
  | true => have := el_log G hG hb; exact absurd this.2 (h _ this.1)
theorem log_miss_big {g : Int} (h : ¬ (1 ≤ g ∧ g ≤ 226)) : elB g = false := elB_out g h

end Go.Proofs.Ytipdflbnnmghdaa

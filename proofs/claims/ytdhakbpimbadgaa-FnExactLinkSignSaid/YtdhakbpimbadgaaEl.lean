/- Elements: powers and products of the program. -/
import Derived.Test.YtdhakbpimbadgaaWalk1
import Derived.Test.YtdhakbpimbadgaaWalk2a
namespace Go.Proofs.Ytdhakbpimbadgaa
open Go.RowKit
set_option maxRecDepth 100000

theorem powI_bd (g e : Int) : 0 ≤ powI g e 227 ∧ powI g e 227 ≤ 226 := ⟨powI_lo _ _ _, powI_hi _ _ _ (by omega)⟩
theorem mul_bd2 (a b : Int) (h1 : 0 ≤ a) (h2 : a ≤ 226) (h3 : 0 ≤ b) (h4 : b ≤ 226) : 0 ≤ a * b ∧ a * b ≤ 51076 :=
  ⟨Int.mul_nonneg h1 h3, by have := Int.mul_le_mul h2 h4 h3 (by omega : (0:Int) ≤ 226); omega⟩
set_option maxHeartbeats 400000 in
theorem i_el_power (g e : Int) (w : World) (hg : 0 ≤ g) (hg2 : g ≤ 226) (he : 0 ≤ e) (he2 : e ≤ 112) :
    Calls Try.prog 87 #[.int .i64 g, .int .i64 e] w fun x w' => x = .returned (.int .i64 (powI g e 227)) ∧ w = w' := by
  go_enter Try.func87, Try.ntmps87
  go_wp2_with (first | (go_at_call 110; refine (i_powerModulo _ _ _ _ (by omega) (by omega) (by omega) (by omega) (by omega) (by omega)).mono ?_; rintro e w' ⟨rfl, rfl⟩) | go_in)
  go_ret
  exact ⟨rfl, rfl⟩
set_option maxHeartbeats 400000 in
theorem i_el_times (g h : Int) (w : World) (hg : 0 ≤ g) (hg2 : g ≤ 226) (hh : 0 ≤ h) (hh2 : h ≤ 226) :
    Calls Try.prog 113 #[.int .i64 g, .int .i64 h] w fun x w' => x = .returned (.int .i64 (g * h % 227)) ∧ w = w' := by
  obtain ⟨m0, m1⟩ := mul_bd2 g h hg hg2 hh hh2
  go_enter Try.func113, Try.ntmps113
  go_wp2
  go_ret
  exact ⟨rfl, rfl⟩
end Go.Proofs.Ytdhakbpimbadgaa

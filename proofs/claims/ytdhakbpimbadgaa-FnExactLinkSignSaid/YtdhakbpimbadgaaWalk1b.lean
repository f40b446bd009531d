/- The exported functions of chapter 1: what they return at good arguments and at others. Made by gen1.py. -/
import Derived.Test.YtdhakbpimbadgaaWalk1
namespace Go.Proofs.Ytdhakbpimbadgaa
open Go.RowKit

theorem mul_le (a b : Int) (ha : 0 ≤ a ∧ a ≤ 1000) (hb : 0 ≤ b ∧ b ≤ 1000) : 0 ≤ a * b ∧ a * b ≤ 1000000 :=
  ⟨Int.mul_nonneg ha.1 hb.1, by
    have := Int.mul_le_mul (a := a) (b := b) (c := 1000) (d := 1000) ha.2 hb.2 hb.1 (by omega)
    omega⟩
theorem ret_b {a b : Bool} (h : a = b) : Ending.returned (.bool a) = .returned (.bool b) := by rw [h]
theorem ret_ib {k : IntKind} {a b : Int} {c : Bool} (h : a = b) : Ending.returned (.tuple #[.int k a, .bool c]) = .returned (.tuple #[.int k b, .bool c]) := by rw [h]
theorem sub_same (a b : Int) : (a - b + 113) % 113 = (a - b) % 113 := by omega
theorem sub_same' (a b : Int) : (a + 113 - b) % 113 = (a - b) % 113 := by omega

set_option maxHeartbeats 400000 in
theorem s_ElementOk (g : Int) (w : World) :
    Calls Try.prog 82 #[.int .i64 g] w fun x w' => x = .returned (.bool (elB g)) ∧ w = w' := by
  by_cases h : 1 ≤ g ∧ g ≤ 226
  · have HB := Lib.hid (elB_in g h)
    obtain ⟨h1, h2⟩ := h
    go_enter Try.func82, Try.ntmps82
    go_wp2_with (first | (go_at_call 54; refine (s_l1Pow _ _ _ (by omega) (by omega) (by omega) (by omega)).mono ?_; rintro e w' ⟨rfl, rfl⟩) | go_in)
    go_ret
    exact ⟨ret_b HB.out.symm, rfl⟩
  · have HB := Lib.hid (elB_out g h)
    by_cases h1 : 1 ≤ g
    all_goals by_cases h2 : g ≤ 226
    · exact absurd ⟨h1, h2⟩ h
    all_goals
      clear h
      go_enter Try.func82, Try.ntmps82
      go_wp2
      all_goals (go_ret; exact ⟨ret_b HB.out.symm, rfl⟩)

set_option maxHeartbeats 400000 in
theorem i_ElementOk (g : Int) (w : World) :
    Calls Try.prog 76 #[.int .i64 g] w fun x w' => x = .returned (.bool (elB g)) ∧ w = w' := by
  by_cases h : 1 ≤ g ∧ g ≤ 226
  · have HB := Lib.hid (elB_in g h)
    obtain ⟨h1, h2⟩ := h
    go_enter Try.func76, Try.ntmps76
    go_wp2_with (first | (go_at_call 110; refine (i_powerModulo _ _ _ _ (by omega) (by omega) (by omega) (by omega) (by omega) (by omega)).mono ?_; rintro e w' ⟨rfl, rfl⟩) | go_in)
    go_ret
    exact ⟨ret_b HB.out.symm, rfl⟩
  · have HB := Lib.hid (elB_out g h)
    by_cases h1 : 1 ≤ g
    all_goals by_cases h2 : g ≤ 226
    · exact absurd ⟨h1, h2⟩ h
    all_goals
      clear h
      go_enter Try.func76, Try.ntmps76
      go_wp2
      all_goals (go_ret; exact ⟨ret_b HB.out.symm, rfl⟩)

end Go.Proofs.Ytdhakbpimbadgaa

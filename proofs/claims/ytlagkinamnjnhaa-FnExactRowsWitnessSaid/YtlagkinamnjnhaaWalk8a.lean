/- Chapter 8 in the model: circuits that are valid. -/
import Derived.Test.YtlagkinamnjnhaaMath10
import Derived.Test.YtlagkinamnjnhaaWalk2a
namespace Go.Proofs.Ytlagkinamnjnhaa
open Go.RowKit
set_option maxRecDepth 100000

set_option maxHeartbeats 4000000 in
theorem s_l8Gate (kd a b t m : Int) (w : World) (ht : 0 ≤ t ∧ t ≤ 100) (hm : 0 ≤ m ∧ m ≤ 100) :
    Calls Try.prog 48 #[.agg #[.int .i64 kd, .int .i64 a, .int .i64 b], .int .i64 t, .int .i64 m] w fun e w' => e = .returned (.bool (gateB (kd, a, b) t m)) ∧ Below w.heap.size w w' := by
  by_cases h0 : kd = 0
  · subst h0
    cases h1 : inB a 0 (m - 1)
    all_goals by_cases h2 : b = 0
    all_goals
      go_enter Try.func48, Try.ntmps48
      go_wp2_with fail
      refine (s_l6In _ _ _ _).mono ?_
      rintro e w' ⟨rfl, rfl⟩
      rw [h1]
      go_wp2
      go_ret
      exact ⟨by simp [gateB, h1, h2], (Below.refl _ _).alloc (Nat.le_refl _) _⟩
  by_cases h1 : kd = 1
  · subst h1
    cases h1 : numB a
    all_goals by_cases h2 : b = 0
    all_goals
      go_enter Try.func48, Try.ntmps48
      go_wp2_with fail
      refine (s_NumOk _ _).mono ?_
      rintro e w' ⟨rfl, rfl⟩
      rw [h1]
      go_wp2
      go_ret
      exact ⟨by simp [gateB, h1, h2], (Below.refl _ _).alloc (Nat.le_refl _) _⟩
  by_cases h2 : kd = 2 ∨ kd = 3 ∨ kd = 4
  · have hg : gateB (kd, a, b) t m = (inB a 0 (t - 1) && inB b 0 (t - 1)) := by simp [gateB, h0, h1, h2]
    rw [hg]
    clear hg
    cases h3 : inB a 0 (t - 1)
    · rcases h2 with rfl | rfl | rfl
      all_goals
        go_enter Try.func48, Try.ntmps48
        go_wp2_with fail
        refine (s_l6In _ _ _ _).mono ?_
        rintro e w' ⟨rfl, rfl⟩
        rw [h3]
        go_wp2
        go_ret
        exact ⟨rfl, (Below.refl _ _).alloc (Nat.le_refl _) _⟩
    · rcases h2 with rfl | rfl | rfl
      all_goals
        cases h4 : inB b 0 (t - 1)
        all_goals
          go_enter Try.func48, Try.ntmps48
          go_wp2_with fail
          refine (s_l6In _ _ _ _).mono ?_
          rintro e w' ⟨rfl, rfl⟩
          rw [h3]
          go_wp2_with fail
          refine (s_l6In _ _ _ _).mono ?_
          rintro e w' ⟨rfl, rfl⟩
          rw [h4]
          go_wp2
          go_ret
          exact ⟨rfl, (Below.refl _ _).alloc (Nat.le_refl _) _⟩
  · have hg : gateB (kd, a, b) t m = false := by simp [gateB, h0, h1, h2]
    have h3 : kd ≠ 2 := fun h => h2 (.inl h)
    have h4 : kd ≠ 3 := fun h => h2 (.inr (.inl h))
    have h5 : kd ≠ 4 := fun h => h2 (.inr (.inr h))
    rw [hg]
    clear hg h2
    go_enter Try.func48, Try.ntmps48
    go_wp2
    go_ret
    exact ⟨rfl, (Below.refl _ _).alloc (Nat.le_refl _) _⟩
end Go.Proofs.Ytlagkinamnjnhaa

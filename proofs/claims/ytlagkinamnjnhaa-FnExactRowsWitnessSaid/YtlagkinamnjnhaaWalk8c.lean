/- Chapter 8 in the program: what gates are. -/
import Derived.Test.YtlagkinamnjnhaaWalk8b
namespace Go.Proofs.Ytlagkinamnjnhaa
open Go.RowKit
set_option maxRecDepth 100000

/-- a valid gate behind the interface -/
def gI (g : Int × Int × Int) : Value :=
  if g.1 = 0 then .iface 94 (.agg #[.int .i64 g.2.1])
  else if g.1 = 1 then .iface 97 (.agg #[.int .i64 g.2.1])
  else if g.1 = 2 then .iface 101 (.agg #[.int .i64 g.2.1, .int .i64 g.2.2, .int .i64 1])
  else if g.1 = 3 then .iface 101 (.agg #[.int .i64 g.2.1, .int .i64 g.2.2, .int .i64 112])
  else if g.1 = 4 then .iface 103 (.agg #[.int .i64 g.2.1, .int .i64 g.2.2])
  else .nilIface
/-- it has a kind, and no B where none counts -/
def gateKB (g : Int × Int × Int) : Bool := if g.1 = 0 ∨ g.1 = 1 then decide (g.2.2 = 0) else decide (g.1 = 2 ∨ g.1 = 3 ∨ g.1 = 4)

set_option maxHeartbeats 4000000 in
theorem i_gateOf (kd a b : Int) (w : World) :
    Calls Try.prog 51 #[.agg #[.int .i64 kd, .int .i64 a, .int .i64 b]] w fun e w' => e = .returned (.tuple #[gI (kd, a, b), .bool (gateKB (kd, a, b))]) ∧ Below w.heap.size w w' := by
  by_cases h0 : kd = 0
  · subst h0
    by_cases h2 : b = 0
    all_goals
      go_enter Try.func51, Try.ntmps51
      go_wp2
      go_quiet (fail)
      go_wp2
      go_ret2
      exact ⟨by simp [gI, gateKB, h2], below_drewN (((Below.refl _ _).alloc (Nat.le_refl _) _).alloc (by simp) _) _⟩
  by_cases h1 : kd = 1
  · subst h1
    by_cases h2 : b = 0
    all_goals
      go_enter Try.func51, Try.ntmps51
      go_wp2
      go_quiet (fail)
      go_wp2
      go_ret2
      exact ⟨by simp [gI, gateKB, h2], below_drewN (((Below.refl _ _).alloc (Nat.le_refl _) _).alloc (by simp) _) _⟩
  by_cases h2 : kd = 2
  · subst h2
    go_enter Try.func51, Try.ntmps51
    go_wp2
    go_ret2
    exact ⟨by simp [gI, gateKB], ((Below.refl _ _).alloc (Nat.le_refl _) _).alloc (by simp) _⟩
  by_cases h3 : kd = 3
  · subst h3
    go_enter Try.func51, Try.ntmps51
    go_wp2
    go_ret2
    exact ⟨by simp [gI, gateKB], ((Below.refl _ _).alloc (Nat.le_refl _) _).alloc (by simp) _⟩
  by_cases h4 : kd = 4
  · subst h4
    go_enter Try.func51, Try.ntmps51
    go_wp2
    go_ret2
    exact ⟨by simp [gI, gateKB], ((Below.refl _ _).alloc (Nat.le_refl _) _).alloc (by simp) _⟩
  · go_enter Try.func51, Try.ntmps51
    go_wp2
    go_ret2
    exact ⟨by simp [gI, gateKB, h0, h1, h2, h3, h4], ((Below.refl _ _).alloc (Nat.le_refl _) _).alloc (by simp) _⟩

set_option maxHeartbeats 1000000 in
theorem i_fits_input (a m t : Int) (w : World) :
    Calls Try.prog 92 #[.agg #[.int .i64 a], .int .i64 m, .int .i64 t] w fun e w' => e = .returned (.bool (decide (0 ≤ a) && decide (a < m))) ∧ Below w.heap.size w w' := by
  by_cases h1 : 0 ≤ a
  all_goals by_cases h2 : a < m
  all_goals
    go_enter Try.func92, Try.ntmps92
    go_wp2
    go_ret
    exact ⟨by simp [h1, h2], (Below.refl _ _).alloc (Nat.le_refl _) _⟩
set_option maxHeartbeats 1000000 in
theorem i_fits_const (a m t : Int) (w : World) :
    Calls Try.prog 94 #[.agg #[.int .i64 a], .int .i64 m, .int .i64 t] w fun e w' => e = .returned (.bool (numB a)) ∧ Below w.heap.size w w' := by
  go_enter Try.func94, Try.ntmps94
  go_wp2_with fail
  refine (i_NumOk _ _).mono ?_
  rintro e w' ⟨rfl, rfl⟩
  go_wp2
  go_ret
  exact ⟨rfl, (Below.refl _ _).alloc (Nat.le_refl _) _⟩
set_option maxHeartbeats 2000000 in
theorem i_fits_two (a b m t : Int) (w : World) :
    Calls Try.prog 95 #[.agg #[.int .i64 a, .int .i64 b], .int .i64 m, .int .i64 t] w fun e w' => e = .returned (.bool ((decide (0 ≤ a) && decide (a < t)) && (decide (0 ≤ b) && decide (b < t)))) ∧ Below w.heap.size w w' := by
  by_cases h1 : 0 ≤ a
  all_goals by_cases h2 : a < t
  all_goals by_cases h3 : 0 ≤ b
  all_goals by_cases h4 : b < t
  all_goals try (exfalso; omega)
  all_goals
    go_enter Try.func95, Try.ntmps95
    go_wp2
    go_ret
    exact ⟨by simp [h1, h2, h3, h4], (Below.refl _ _).alloc (Nat.le_refl _) _⟩
end Go.Proofs.Ytlagkinamnjnhaa

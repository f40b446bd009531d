/- The exported functions of chapter 1: what they return at good arguments and at others. Made by gen1.py. -/
import Derived.Test.YtbabkaofhhaneaaWalk1
namespace Go.Proofs.Ytbabkaofhhaneaa
open Go.RowKit

theorem mul_le (a b : Int) (ha : 0 ≤ a ∧ a ≤ 1000) (hb : 0 ≤ b ∧ b ≤ 1000) : 0 ≤ a * b ∧ a * b ≤ 1000000 :=
  ⟨Int.mul_nonneg ha.1 hb.1, by
    have := Int.mul_le_mul (a := a) (b := b) (c := 1000) (d := 1000) ha.2 hb.2 hb.1 (by omega)
    omega⟩
theorem ret_b {a b : Bool} (h : a = b) : Ending.returned (.bool a) = .returned (.bool b) := by rw [h]
theorem ret_ib {k : IntKind} {a b : Int} {c : Bool} (h : a = b) : Ending.returned (.tuple #[.int k a, .bool c]) = .returned (.tuple #[.int k b, .bool c]) := by rw [h]
theorem sub_same (a b : Int) : (a - b + 113) % 113 = (a - b) % 113 := by omega
theorem sub_same' (a b : Int) : (a + 113 - b) % 113 = (a - b) % 113 := by omega

set_option maxHeartbeats 400000 in
theorem i_NumSub (a b : Int) (w : World) (ha : numB a = true) (hb : numB b = true) :
    Calls Try.prog 57 #[.int .i64 a, .int .i64 b] w fun x w' => x = .returned (.tuple #[.int .i64 ((a - b) % 113), .bool true]) ∧ w = w' := by
  have ra := (numB_iff a).1 ha
  have rb := (numB_iff b).1 hb
  obtain ⟨ra1, ra2⟩ := ra
  obtain ⟨rb1, rb2⟩ := rb
  go_enter Try.func57, Try.ntmps57
  go_wp2_with (first | (go_at_call 63; refine (i_NumOk _ _).mono ?_; rintro e w' ⟨rfl, rfl⟩) | go_in)
  go_ret2
  exact ⟨by first | rfl | exact ret_ib (sub_same a b) | exact ret_ib (sub_same' a b), rfl⟩
set_option maxHeartbeats 400000 in
theorem i_NumSub_no (a b : Int) (w : World) (h : (numB a && numB b) = false) :
    Calls Try.prog 57 #[.int .i64 a, .int .i64 b] w fun x w' => x = .returned (.tuple #[.int .i64 0, .bool false]) ∧ w = w' := by
  cases ha : numB a
  · go_enter Try.func57, Try.ntmps57
    go_wp2_with (first | (go_at_call 63; refine (i_NumOk _ _).mono ?_; rintro e w' ⟨rfl, rfl⟩) | go_in)
    go_ret2
    exact ⟨rfl, rfl⟩
  · have hb : numB b = false := by rw [ha] at h; simpa using h
    clear h
    go_enter Try.func57, Try.ntmps57
    go_wp2_with (first | (go_at_call 63; refine (i_NumOk _ _).mono ?_; rintro e w' ⟨rfl, rfl⟩) | go_in)
    go_ret2
    exact ⟨rfl, rfl⟩

end Go.Proofs.Ytbabkaofhhaneaa

/- The walks of chapter 1: what each function of the numbers and of the elements comes to, in the program and in the model. -/
import Derived.Test.YtdhakbpimbadgaaMath1
import Derived.Test.YtdhakbpimbadgaaRows
import Derived.WalkKit
import Derived.WalkSpells
import Derived.WalkLawsBesides
import Derived.Lib.Hide
namespace Go.Proofs.Ytdhakbpimbadgaa
open Go.RowKit

theorem ret_i {k : IntKind} {a b : Int} (h : a = b) : Ending.returned (.int k a) = .returned (.int k b) := by rw [h]

/-! ### one number -/
set_option maxHeartbeats 400000 in
theorem s_NumOk (a : Int) (w : World) :
    Calls Try.prog 36 #[.int .i64 a] w fun e w' => e = .returned (.bool (numB a)) ∧ w = w' := by
  by_cases h0 : 0 ≤ a
  all_goals by_cases h1 : a ≤ 112
  all_goals
    go_enter Try.func36, Try.ntmps36
    go_wp2
    go_ret
    exact ⟨by simp [numB, h0, h1], rfl⟩

set_option maxHeartbeats 400000 in
theorem i_NumOk (a : Int) (w : World) :
    Calls Try.prog 43 #[.int .i64 a] w fun e w' => e = .returned (.bool (numB a)) ∧ w = w' := by
  by_cases h0 : 0 ≤ a
  all_goals by_cases h1 : a < 113
  all_goals
    go_enter Try.func43, Try.ntmps43
    go_wp2
    go_ret
    exact ⟨by simp [numB]; omega, rfl⟩

/-! ### loops -/
set_option maxHeartbeats 400000 in
theorem i_powerModulo (b e m : Int) (w : World) (hb : 0 ≤ b) (hbm : b < m) (he : 0 ≤ e) (he2 : e ≤ 9223372036854775807) (hm : 2 ≤ m) (hm2 : m ≤ 10000) :
    Calls Try.prog 110 #[.int .i64 b, .int .i64 e, .int .i64 m] w fun x w' => x = .returned (.int .i64 (powI b e m)) ∧ w = w' := by
  obtain ⟨B, rfl⟩ := Int.eq_ofNat_of_zero_le hb
  obtain ⟨E, rfl⟩ := Int.eq_ofNat_of_zero_le he
  obtain ⟨M, rfl⟩ := Int.eq_ofNat_of_zero_le (show 0 ≤ m by omega)
  go_enter Try.func110, Try.ntmps110
  go_wp2
  go_loop [0, 1, 7] (fun b e p => ∃ B' E' P : Nat, B' < M ∧ E' ≤ E ∧ P < M ∧ Hid (P * B' ^ E' % M = B ^ E % M) ∧ b = .int .i64 B' ∧ e = .int .i64 E' ∧ p = .int .i64 P) (fun _ e _ => (intOf e).toNat)
  case atStart => exact ⟨B, E, 1, by omega, by omega, by omega, Lib.hid (by rw [Nat.one_mul]), rfl, rfl, rfl⟩
  case round =>
    obtain ⟨B', E', P, hB, hE, hP, hI, rfl, rfl, rfl⟩ := hrel
    have k1 : (0 : Int) ≤ (P : Int) * (B' : Int) := Int.mul_nonneg (by omega) (by omega)
    have k2 : (P : Int) * (B' : Int) ≤ 100000000 := by
      have := Int.mul_le_mul (a := (P : Int)) (b := (B' : Int)) (c := 10000) (d := 10000) (by omega) (by omega) (by omega) (by omega)
      omega
    have k3 : (0 : Int) ≤ (B' : Int) * (B' : Int) := Int.mul_nonneg (by omega) (by omega)
    have k4 : (B' : Int) * (B' : Int) ≤ 100000000 := by
      have := Int.mul_le_mul (a := (B' : Int)) (b := (B' : Int)) (c := 10000) (d := 10000) (by omega) (by omega) (by omega) (by omega)
      omega
    by_cases h0 : 0 < E'
    · by_cases h1 : E' % 2 = 1
      · have H1 : ((E' : Int) % 2 == 1) = true := by rw [beq_iff_eq]; omega
        have r := sq_odd P B' E' M h1
        have R := Lib.hid (r.trans hI.out)
        clear r hI h1
        go_wp2
        go_round
        case rel => exact ⟨B' * B' % M, E' / 2, P * B' % M, Nat.mod_lt _ (by omega), by omega, Nat.mod_lt _ (by omega), R, by go_num, by go_num, by go_num⟩
        case measure => simp [intOf]; omega
      · have H1 : ((E' : Int) % 2 == 1) = false := by rw [beq_eq_false_iff_ne]; omega
        have r := sq_even P B' E' M (by omega)
        have R := Lib.hid (r.trans hI.out)
        clear r hI h1
        go_wp2
        go_round
        case rel => exact ⟨B' * B' % M, E' / 2, P, Nat.mod_lt _ (by omega), by omega, hP, R, by go_num, by go_num, rfl⟩
        case measure => simp [intOf]; omega
    · have e0 : E' = 0 := by omega
      have hp : (P : Int) = powI B E M := by
        have := hI.out; rw [e0, Nat.pow_zero, Nat.mul_one, Nat.mod_eq_of_lt hP] at this
        simp [powI, powN, this]
      have HP := Lib.hid hp
      clear hp e0 hI
      go_wp2
      go_ret
      exact ⟨ret_i HP.out, rfl⟩

set_option maxHeartbeats 400000 in
theorem s_l1Pow (g e : Int) (w : World) (hg : 0 ≤ g) (hg2 : g < 227) (he : 0 ≤ e) (he2 : e ≤ 9223372036854775807) :
    Calls Try.prog 54 #[.int .i64 g, .int .i64 e] w fun x w' => x = .returned (.int .i64 (powI g e 227)) ∧ w = w' := by
  obtain ⟨G, rfl⟩ := Int.eq_ofNat_of_zero_le hg
  obtain ⟨E, rfl⟩ := Int.eq_ofNat_of_zero_le he
  go_enter Try.func54, Try.ntmps54
  go_wp2
  go_loop [5, 6] (fun x k => ∃ K X : Nat, K ≤ E ∧ X < 227 ∧ Hid (X = powN G K 227) ∧ x = .int .i64 X ∧ k = .int .i64 K) (fun _ k => E - (intOf k).toNat)
  case atStart => exact ⟨0, 1, by omega, by omega, Lib.hid (by simp [powN]), rfl, rfl⟩
  case round =>
    obtain ⟨K, X, hK, hX, hI, rfl, rfl⟩ := hrel
    have k1 : (0 : Int) ≤ (X : Int) * (G : Int) := Int.mul_nonneg (by omega) (by omega)
    have k2 : (X : Int) * (G : Int) ≤ 1000000 := by
      have := Int.mul_le_mul (a := (X : Int)) (b := (G : Int)) (c := 1000) (d := 1000) (by omega) (by omega) (by omega) (by omega)
      omega
    by_cases h0 : K < E
    · have R : Hid (X * G % 227 = powN G (K + 1) 227) := Lib.hid (by rw [hI.out]; exact pow_step G K 227)
      clear hI
      go_wp2
      go_round
      case rel => exact ⟨K + 1, X * G % 227, by omega, Nat.mod_lt _ (by omega), R, by go_num, by go_num⟩
      case measure => simp [intOf]; omega
    · have HP : Hid ((X : Int) = powI G E 227) := Lib.hid (by
        have : K = E := by omega
        rw [hI.out, this]; simp [powI])
      clear hI
      go_wp2
      go_ret
      exact ⟨ret_i HP.out, rfl⟩

/-- a power of BaseG that is not yet the element -/
def noLog (G E : Nat) : Prop := ∀ e, e < E → ¬ powN 4 e 227 = G
theorem noLog_0 (G : Nat) : noLog G 0 := by intro e h; omega
theorem noLog_succ {G E X : Nat} (h : noLog G E) (hx : X = powN 4 E 227) (hn : ¬ X = G) : noLog G (E + 1) := by
  intro e he
  by_cases hc : e = E
  · rw [hc, ← hx]; exact hn
  · exact h e (by omega)
theorem log_hit {G E X : Nat} (hE : E < 113) (hx : X = powN 4 E 227) (hn : X = G) : logI (G : Int) = E ∧ elB (G : Int) = true := by
  rw [← hn, hx]; exact ⟨by simp [logI, log_is E hE], log_el E hE⟩
theorem log_miss {G : Nat} (hG : G < 227) (h : noLog G 113) : elB (G : Int) = false := by
  cases hb : elB (G : Int) with
  | false => rfl
  | true => have := el_log G hG hb; exact absurd this.2 (h _ this.1)
theorem log_miss_big {g : Int} (h : ¬ (1 ≤ g ∧ g ≤ 226)) : elB g = false := elB_out g h

end Go.Proofs.Ytdhakbpimbadgaa

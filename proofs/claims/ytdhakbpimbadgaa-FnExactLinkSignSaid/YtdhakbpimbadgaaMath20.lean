/- Chapter 14: the mathematics of proofs of knowledge: elements are powers of 4 modulo 227, exponents count modulo 113. -/
import Derived.Test.YtdhakbpimbadgaaPow
namespace Go.Proofs.Ytdhakbpimbadgaa
set_option maxRecDepth 100000

/-- the power of 4 with an exponent that counts modulo 113 -/
def E4 (x : Nat) : Nat := powN 4 (x % 113) 227
theorem E4_add (a b : Nat) : E4 a * E4 b % 227 = E4 (a + b) := by
  unfold E4; rw [pow_per, pow_per, pow_per, pow_add]
theorem E4_pow (x n : Nat) : powN (E4 x) n 227 = E4 (x * n) := by
  unfold E4; rw [pow_per, pow_per]
  unfold powN; rw [Nat.pow_mul, ← Nat.pow_mod]
theorem E4_eq {a b : Nat} (h : E4 a = E4 b) : a % 113 = b % 113 := pow4_inj (Nat.mod_lt _ (by omega)) (Nat.mod_lt _ (by omega)) h
theorem E4_of {a b : Nat} (h : a % 113 = b % 113) : E4 a = E4 b := by unfold E4; rw [h]
theorem E4_el (a : Nat) : elB ((E4 a : Nat) : Int) = true := log_el _ (Nat.mod_lt _ (by omega))
theorem el_E4 {g : Int} (h : elB g = true) : ∃ x : Nat, x < 113 ∧ g = ((E4 x : Nat) : Int) := by
  have r := elB_range h
  obtain ⟨G, rfl⟩ := Int.eq_ofNat_of_zero_le (show 0 ≤ g by omega)
  have := el_log G (by omega) h
  refine ⟨logN G, this.1, ?_⟩
  unfold E4; rw [Nat.mod_eq_of_lt this.1, this.2]
theorem powI_E4 (x n : Nat) : powI ((E4 x : Nat) : Int) (n : Int) 227 = ((E4 (x * n) : Nat) : Int) := by
  unfold powI; simp only [Int.toNat_natCast, show (227 : Int).toNat = 227 from rfl]; rw [E4_pow]
theorem powI_4 (n : Nat) : powI 4 (n : Int) 227 = ((E4 n : Nat) : Int) := by
  unfold powI; simp only [Int.toNat_natCast, show (4 : Int).toNat = 4 from rfl, show (227 : Int).toNat = 227 from rfl]
  unfold E4; rw [pow_per]
theorem mul_E4 (a b : Nat) : ((E4 a : Nat) : Int) * ((E4 b : Nat) : Int) % 227 = ((E4 (a + b) : Nat) : Int) := by
  rw [← E4_add]; simp

/-- the commitment that fits a challenge and a response -/
def backI (b k r c : Int) : Int := powI b r 227 * powI k ((0 - c) % 113) 227 % 227
theorem backI_bd (b k r c : Int) : 0 ≤ backI b k r c ∧ backI b k r c ≤ 226 := by unfold backI; omega
/-- with b and k as powers of 4 -/
theorem back_E4 (b k r c : Nat) (hc : c < 113) : backI ((E4 b : Nat) : Int) ((E4 k : Nat) : Int) (r : Int) (c : Int) = ((E4 (b * r + k * ((113 - c) % 113)) : Nat) : Int) := by
  unfold backI
  rw [show ((0 : Int) - (c : Int)) % 113 = (((113 - c) % 113 : Nat) : Int) by omega, powI_E4, powI_E4, mul_E4]
theorem neg_mul (x c : Nat) (hc : c < 113) : ∃ q, x * ((113 - c) % 113) + x * c = 113 * q := by
  rw [← Nat.mul_add]
  rcases Nat.eq_zero_or_pos c with rfl | h
  · exact ⟨0, by simp⟩
  · exact ⟨x, by rw [show (113 - c) % 113 + c = 113 by omega, Nat.mul_comm]⟩
theorem back_el {b k r c : Int} (hb : elB b = true) (hk : elB k = true) (hr : 0 ≤ r) (hc : 0 ≤ c ∧ c ≤ 112) : elB (backI b k r c) = true := by
  obtain ⟨B, _, rfl⟩ := el_E4 hb
  obtain ⟨K, _, rfl⟩ := el_E4 hk
  obtain ⟨R, rfl⟩ := Int.eq_ofNat_of_zero_le hr
  obtain ⟨C, rfl⟩ := Int.eq_ofNat_of_zero_le hc.1
  rw [back_E4 B K R C (by omega)]; exact E4_el _
theorem el4 : elB 4 = true := by decide +kernel
theorem E4_1 : ((E4 1 : Nat) : Int) = 4 := by decide +kernel
/-- a commitment fits just if it is that one -/
theorem back_is {b k com r c : Int} (hb : elB b = true) (hk : elB k = true) (hm : elB com = true) (hr : 0 ≤ r) (hc : 0 ≤ c ∧ c ≤ 112) :
    powI b r 227 = com * powI k c 227 % 227 ↔ com = backI b k r c := by
  obtain ⟨B, _, rfl⟩ := el_E4 hb
  obtain ⟨K, _, rfl⟩ := el_E4 hk
  obtain ⟨M, _, rfl⟩ := el_E4 hm
  obtain ⟨R, rfl⟩ := Int.eq_ofNat_of_zero_le hr
  obtain ⟨C, rfl⟩ := Int.eq_ofNat_of_zero_le hc.1
  rw [back_E4 B K R C (by omega), powI_E4, powI_E4, mul_E4]
  obtain ⟨q, hq⟩ := neg_mul K C (by omega)
  constructor
  · intro h
    have h1 := E4_eq (show E4 (B * R) = E4 (M + K * C) by exact_mod_cast h)
    have : E4 M = E4 (B * R + K * ((113 - C) % 113)) := E4_of (by omega)
    rw [this]
  · intro h
    have h1 := E4_eq (show E4 M = E4 (B * R + K * ((113 - C) % 113)) by exact_mod_cast h)
    have : E4 (B * R) = E4 (M + K * C) := E4_of (by omega)
    rw [this]

def feignB (k c r : Int) : Bool := elB k && (numB c && numB r)
def goodB (k com c r : Int) : Bool := elB k && (elB com && (numB c && (numB r && decide (powI 4 r 227 = com * powI k c 227 % 227))))
theorem good_is (k com c r : Int) : goodB k com c r = (feignB k c r && decide (com = backI 4 k r c)) := by
  rw [Bool.eq_iff_iff]
  simp only [goodB, feignB, Bool.and_eq_true, decide_eq_true_eq]
  constructor
  · rintro ⟨h1, h2, h3, h4, h5⟩
    have n3 := (numB_iff c).1 h3
    have n4 := (numB_iff r).1 h4
    exact ⟨⟨h1, h3, h4⟩, (back_is el4 h1 h2 n4.1 n3).1 h5⟩
  · rintro ⟨⟨h1, h3, h4⟩, h5⟩
    have n3 := (numB_iff c).1 h3
    have n4 := (numB_iff r).1 h4
    have h2 : elB com = true := by rw [h5]; exact back_el el4 h1 n4.1 n3
    exact ⟨h1, h2, h3, h4, (back_is el4 h1 h2 n4.1 n3).2 h5⟩
theorem good_back {k c r : Int} (h : feignB k c r = true) : goodB k (backI 4 k r c) c r = true := by rw [good_is, h]; simp

def twinFB (a b k l c r : Int) : Bool := (elB a && elB b) && ((elB k && elB l) && (numB c && numB r))
def twinB (a b k l m n c r : Int) : Bool := twinFB a b k l c r && (decide (m = backI a k r c) && decide (n = backI b l r c))
/-- a proof of a secret is the one that is feigned with its answer -/
theorem made_is {b s n c : Int} (hb : elB b = true) (hs : 0 ≤ s ∧ s ≤ 112) (hn : 0 ≤ n) (hc : 0 ≤ c ∧ c ≤ 112) : backI b (powI b s 227) ((n + c * s % 113) % 113) c = powI b n 227 := by
  obtain ⟨B, _, rfl⟩ := el_E4 hb
  obtain ⟨S, rfl⟩ := Int.eq_ofNat_of_zero_le hs.1
  obtain ⟨M, rfl⟩ := Int.eq_ofNat_of_zero_le hn
  obtain ⟨C, rfl⟩ := Int.eq_ofNat_of_zero_le hc.1
  rw [show ((M : Int) + (C : Int) * (S : Int) % 113) % 113 = (((M + C * S % 113) % 113 : Nat) : Int) by simp, powI_E4, powI_E4, back_E4 _ _ _ _ (by omega)]
  congr 1
  refine E4_of ?_
  obtain ⟨q, hq⟩ := neg_mul (B * S) C (by omega)
  have h1 : B * ((M + C * S % 113) % 113) % 113 = (B * M + B * (C * S)) % 113 := by
    rw [← Nat.mul_add, Nat.mul_mod, Nat.mod_mod, Nat.add_mod_mod, ← Nat.mul_mod]
  have h2 : B * (C * S) = B * S * C := by rw [Nat.mul_comm C S, Nat.mul_assoc]
  rw [h2] at h1
  omega
theorem resp_same (n c s : Int) : (n + c * s % 113) % 113 = (n + c * s) % 113 := by omega
end Go.Proofs.Ytdhakbpimbadgaa

/- Chapter 7: the mathematics of commitments: powers of 4 and of 9 modulo 227, exponents modulo 113. -/
import Derived.Test.YtjpjmlcmaombnaaMath2c
import Derived.Test.YtjpjmlcmaombnaaMath2d
namespace Go.Proofs.Ytjpjmlcmaombnaa
set_option maxRecDepth 100000

def comI (a b : Int) : Int := powI 4 a 227 * powI 9 b 227 % 227
def comB (a b : Int) : Bool := numB a && numB b
def comV (a b : Int) : Int := if comB a b = true then comI a b else 0
def openB (c a b : Int) : Bool := comB a b && decide (comI a b = c)
def trap : Int := logI 9
theorem el9 : elB 9 = true := by decide +kernel
theorem trap_nat : logN 9 < 113 ∧ powN 4 (logN 9) 227 = 9 ∧ logN 9 ≠ 0 := by decide +kernel
theorem trap_bd : 1 ≤ trap ∧ trap ≤ 112 := by
  have h := trap_nat
  show 1 ≤ ((logN 9 : Nat) : Int) ∧ ((logN 9 : Nat) : Int) ≤ 112
  omega
def turnB (a b o : Int) : Bool := numB a && numB b && numB o
def turnI (a b o : Int) : Int := (b + (a - o) % 113 * powI trap 111 113 % 113) % 113
def turnV (a b o : Int) : Int := if turnB a b o = true then turnI a b o else 0
def breakB (a b c d : Int) : Bool := numB a && numB b && numB c && numB d && (decide (a ≠ c) && decide (comI a b = comI c d))
def breakI (a b c d : Int) : Int := (a - c) % 113 * powI ((d - b) % 113) 111 113 % 113
def breakV (a b c d : Int) : Int := if breakB a b c d = true then breakI a b c d else 0
/-- powers of 4 have one exponent each -/
theorem pow4_inj {a b : Nat} (ha : a < 113) (hb : b < 113) (h : powN 4 a 227 = powN 4 b 227) : a = b := by
  have := congrArg logN h
  rw [log_is a ha, log_is b hb] at this; exact this
theorem pow_add (g a b m : Nat) : powN g a m * powN g b m % m = powN g (a + b) m := by
  unfold powN; rw [← Nat.mul_mod, Nat.pow_add]
theorem pow_per (k : Nat) : powN 4 (k % 113) 227 = powN 4 k 227 := by
  have h1 : powN 4 113 227 = 1 := by decide +kernel
  have h2 : ∀ q, powN 4 (113 * q) 227 = 1 := fun q => by
    unfold powN at h1 ⊢
    rw [Nat.pow_mul, Nat.pow_mod, h1, Nat.one_pow]
  have h3 := pow_add 4 (113 * (k / 113)) (k % 113) 227
  rw [h2, Nat.one_mul, show 113 * (k / 113) + k % 113 = k by omega] at h3
  rw [← h3]; unfold powN; rw [Nat.mod_mod]
theorem pow9 (b : Nat) : powN 9 b 227 = powN 4 (logN 9 * b % 113) 227 := by
  have h := trap_nat.2.1
  rw [pow_per]
  unfold powN at h ⊢
  rw [Nat.pow_mul, Nat.pow_mod (4 ^ logN 9) b, h]
/-- a commitment is a power of 4 -/
theorem com_is {a b : Nat} : comI a b = ((powN 4 ((a + logN 9 * b) % 113) 227 : Nat) : Int) := by
  unfold comI powI
  simp only [Int.toNat_natCast, show (4 : Int).toNat = 4 from rfl, show (9 : Int).toNat = 9 from rfl, show (227 : Int).toNat = 227 from rfl]
  rw [pow9, show (powN 4 a 227 : Int) * (powN 4 (logN 9 * b % 113) 227 : Int) % 227 = ((powN 4 a 227 * powN 4 (logN 9 * b % 113) 227 % 227 : Nat) : Int) by simp, pow_add, pow_per, ← pow_per (a + logN 9 * b % 113), ← pow_per (a + logN 9 * b)]
  congr 2; omega
theorem com_eq {a b c d : Nat} (h : comI a b = comI c d) : (a + logN 9 * b) % 113 = (c + logN 9 * d) % 113 := by
  rw [com_is, com_is] at h
  exact pow4_inj (Nat.mod_lt _ (by omega)) (Nat.mod_lt _ (by omega)) (by exact_mod_cast h)
theorem com_eqI {a b c d : Int} (ha : 0 ≤ a) (hb : 0 ≤ b) (hc : 0 ≤ c) (hd : 0 ≤ d) (h : comI a b = comI c d) : (a + trap * b) % 113 = (c + trap * d) % 113 := by
  obtain ⟨A, rfl⟩ := Int.eq_ofNat_of_zero_le ha
  obtain ⟨B, rfl⟩ := Int.eq_ofNat_of_zero_le hb
  obtain ⟨C, rfl⟩ := Int.eq_ofNat_of_zero_le hc
  obtain ⟨D, rfl⟩ := Int.eq_ofNat_of_zero_le hd
  have := com_eq h
  unfold trap logI
  have e : ∀ x y : Nat, (x : Int) + ((logN (Int.toNat 9) : Nat) : Int) * y = ((x + logN 9 * y : Nat) : Int) := fun x y => by simp [show Int.toNat 9 = 9 from rfl]
  rw [e, e]
  omega
theorem com_ofI {a b c d : Int} (ha : 0 ≤ a) (hb : 0 ≤ b) (hc : 0 ≤ c) (hd : 0 ≤ d) (h : (a + trap * b) % 113 = (c + trap * d) % 113) : comI a b = comI c d := by
  obtain ⟨A, rfl⟩ := Int.eq_ofNat_of_zero_le ha
  obtain ⟨B, rfl⟩ := Int.eq_ofNat_of_zero_le hb
  obtain ⟨C, rfl⟩ := Int.eq_ofNat_of_zero_le hc
  obtain ⟨D, rfl⟩ := Int.eq_ofNat_of_zero_le hd
  rw [com_is, com_is]
  unfold trap logI at h
  have e : ∀ x y : Nat, (x : Int) + ((logN (Int.toNat 9) : Nat) : Int) * y = ((x + logN 9 * y : Nat) : Int) := fun x y => by simp [show Int.toNat 9 = 9 from rfl]
  rw [e, e] at h
  have : (A + logN 9 * B) % 113 = (C + logN 9 * D) % 113 := by omega
  rw [this]
/-- two openings of one commitment that differ differ in both -/
theorem com_blind {a b c d : Int} (hb : 0 ≤ b ∧ b ≤ 112) (hd : 0 ≤ d ∧ d ≤ 112) (ha : 0 ≤ a ∧ a ≤ 112) (hc : 0 ≤ c ∧ c ≤ 112) (h : comI a b = comI c d) (hne : a ≠ c) : b ≠ d := by
  rintro rfl
  have := com_eqI ha.1 hb.1 hc.1 hd.1 h
  omega
theorem com_num {a b c d : Int} (hb : 0 ≤ b ∧ b ≤ 112) (hd : 0 ≤ d ∧ d ≤ 112) (ha : 0 ≤ a ∧ a ≤ 112) (hc : 0 ≤ c ∧ c ≤ 112) (h : comI a b = comI c d) (hne : b ≠ d) : a ≠ c := by
  rintro rfl
  have h1 := com_eqI ha.1 hb.1 hc.1 hd.1 h
  have h2 : trap * (b - d) % 113 = 0 := by
    obtain ⟨k, hk⟩ := of_mod h1
    have : trap * (b - d) = 113 * k := by rw [Int.mul_sub]; omega
    omega
  have := prime_int h2 (by have := trap_bd; omega)
  omega
/-- it is the trapdoor -/
theorem break_is {a b c d : Int} (ha : 0 ≤ a ∧ a ≤ 112) (hb : 0 ≤ b ∧ b ≤ 112) (hc : 0 ≤ c ∧ c ≤ 112) (hd : 0 ≤ d ∧ d ≤ 112) (h : comI a b = comI c d) (hne : a ≠ c) : breakI a b c d = trap := by
  have h1 := com_eqI ha.1 hb.1 hc.1 hd.1 h
  have hbd := com_blind hb hd ha hc h hne
  have hz : (d - b) % 113 ≠ 0 := by omega
  have hv := inv_mul (z := (d - b) % 113) (by omega) (by omega) hz
  obtain ⟨k, hk⟩ := of_mod h1
  obtain ⟨m, hm⟩ := of_mod (show ((d - b) % 113 * powI ((d - b) % 113) 111 113) % 113 = 1 % 113 by rw [hv]; rfl)
  unfold breakI
  have t := trap_bd
  have e : (a - c) % 113 * powI ((d - b) % 113) 111 113 % 113 = trap % 113 := by
    generalize powI ((d - b) % 113) 111 113 = v at *
    have e1 : (d - b) % 113 = d - b - 113 * ((d - b) / 113) := by omega
    have e2 : (a - c) % 113 = a - c - 113 * ((a - c) / 113) := by omega
    generalize (d - b) / 113 = q1 at *
    generalize (a - c) / 113 = q2 at *
    rw [e1] at hm
    rw [e2]
    have h3 : a - c = trap * (d - b) + 113 * k := by
      have : trap * (d - b) = trap * d - trap * b := Int.mul_sub _ _ _
      omega
    refine mod_of (trap * m + (trap * q1 + k - q2) * v) ?_
    rw [h3]
    have h4 : trap * ((d - b - 113 * q1) * v) = trap * (1 + 113 * m) := by rw [hm]
    grind
  omega
/-- with the blind that is told the commitment is to the other number -/
theorem turn_is {a b o : Int} (ha : 0 ≤ a ∧ a ≤ 112) (hb : 0 ≤ b ∧ b ≤ 112) (ho : 0 ≤ o ∧ o ≤ 112) : comI o (turnI a b o) = comI a b := by
  have t := trap_bd
  have hv := inv_mul (z := trap) (by omega) (by omega) (by omega)
  obtain ⟨m, hm⟩ := of_mod (show trap * powI trap 111 113 % 113 = 1 % 113 by rw [hv]; rfl)
  refine com_ofI ho.1 (by unfold turnI; omega) ha.1 hb.1 ?_
  unfold turnI
  generalize powI trap 111 113 = v at *
  generalize hx : (a - o) % 113 * v % 113 = x
  obtain ⟨k1, hk1⟩ := of_mod (show (a - o) % 113 * v % 113 = x % 113 by omega)
  have e2 : (a - o) % 113 = a - o - 113 * ((a - o) / 113) := by omega
  generalize (a - o) / 113 = q2 at *
  have e3 : (b + x) % 113 = b + x - 113 * ((b + x) / 113) := by omega
  generalize (b + x) / 113 = q3 at *
  rw [e3]
  rw [e2] at hk1
  refine mod_of ((a - o) * m - trap * q2 * v - trap * k1 - trap * q3) ?_
  have h4 : (a - o) * (trap * v) = (a - o) * (1 + 113 * m) := by rw [hm]
  have h5 : trap * ((a - o - 113 * q2) * v) = trap * (x + 113 * k1) := by rw [hk1]
  grind
end Go.Proofs.Ytjpjmlcmaombnaa

/- The numbers and the elements: plain arithmetic, with no word of a program. -/
namespace Go.Proofs.Ytdhakbpimbadgaa
/-- a power, reduced: over the naturals -/
def powN (b e m : Nat) : Nat := b ^ e % m
def powI (b e m : Int) : Int := ((powN b.toNat e.toNat m.toNat : Nat) : Int)
def numB (a : Int) : Bool := decide (0 ≤ a ∧ a ≤ 112)
def elB (g : Int) : Bool := decide (1 ≤ g ∧ g ≤ 226) && decide (powI g 113 227 = 1)
def logN (g : Nat) : Nat := ((List.range 113).find? fun e => powN 4 e 227 == g).getD 0
def logI (g : Int) : Int := ((logN g.toNat : Nat) : Int)

theorem powI_lo (b e m : Int) : 0 ≤ powI b e m := by unfold powI; omega
theorem powI_hi (b e m : Int) (h : 1 ≤ m) : powI b e m ≤ m - 1 := by
  unfold powI powN; have := Nat.mod_lt (b.toNat ^ e.toNat) (y := m.toNat) (by omega); omega
theorem numB_iff (a : Int) : numB a = true ↔ 0 ≤ a ∧ a ≤ 112 := by simp [numB]
theorem numB_no (a : Int) : numB a = false ↔ ¬ (0 ≤ a ∧ a ≤ 112) := by simp [numB]
theorem elB_range {g : Int} (h : elB g = true) : 1 ≤ g ∧ g ≤ 226 := by
  simp [elB] at h; exact h.1
theorem elB_pow {g : Int} (h : elB g = true) : powI g 113 227 = 1 := by
  simp [elB] at h; exact h.2
theorem elB_in (g : Int) (h : 1 ≤ g ∧ g ≤ 226) : elB g = (powI g 113 227 == 1) := by
  rw [Bool.eq_iff_iff]; simp [elB, h]
theorem elB_out (g : Int) (h : ¬ (1 ≤ g ∧ g ≤ 226)) : elB g = false := by
  simp [elB]; intro h1 h2; exact absurd ⟨h1, h2⟩ h

/-- one round of repeated squaring -/
theorem sq_even (p b e m : Nat) (h : e % 2 = 0) : p * (b * b % m) ^ (e / 2) % m = p * b ^ e % m := by
  have h2 : (b * b % m) ^ (e / 2) % m = b ^ e % m := by
    rw [← Nat.pow_mod]
    congr 1
    rw [← Nat.pow_two, ← Nat.pow_mul]; congr 1; omega
  rw [Nat.mul_mod, h2, ← Nat.mul_mod]
theorem sq_odd (p b e m : Nat) (h : e % 2 = 1) : (p * b % m) * (b * b % m) ^ (e / 2) % m = p * b ^ e % m := by
  have h2 : (b * b % m) ^ (e / 2) % m = b ^ (e - 1) % m := by
    rw [← Nat.pow_mod]
    congr 1
    rw [← Nat.pow_two, ← Nat.pow_mul]; congr 1; omega
  have h3 : b ^ e = b * b ^ (e - 1) := by
    conv => lhs; rw [show e = (e - 1) + 1 by omega, Nat.pow_succ]
    rw [Nat.mul_comm]
  rw [Nat.mul_mod, h2, h3, ← Nat.mul_assoc, Nat.mod_mod, ← Nat.mul_mod]
/-- one more factor -/
theorem pow_step (g k m : Nat) : powN g k m * g % m = powN g (k + 1) m := by
  unfold powN; rw [Nat.pow_succ, Nat.mod_mul_mod]

theorem inv_all : ∀ a, a < 113 → ∀ b, b < 113 → a * b % 113 = 1 → b = powN a 111 113 := by decide +kernel
theorem inv_is : ∀ a, a < 113 → a ≠ 0 → a * powN a 111 113 % 113 = 1 ∧ powN a 111 113 ≠ 0 := by decide +kernel
theorem log_is : ∀ e, e < 113 → logN (powN 4 e 227) = e := by decide +kernel
theorem log_el : ∀ e, e < 113 → elB ((powN 4 e 227 : Nat) : Int) = true := by decide +kernel
theorem el_log : ∀ g, g < 227 → elB ((g : Nat) : Int) = true → logN g < 113 ∧ powN 4 (logN g) 227 = g := by decide +kernel
theorem pow_el : ∀ e, e < 113 → powN (powN 4 e 227) 113 227 = 1 := by decide +kernel
end Go.Proofs.Ytdhakbpimbadgaa

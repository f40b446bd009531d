/- Powers of 4 modulo 227: exponents count modulo 113. -/
import Derived.Test.YtdhakbpimbadgaaMath1
namespace Go.Proofs.Ytdhakbpimbadgaa
set_option maxRecDepth 100000

/-- powers of 4 have one exponent each -/
theorem pow4_inj {a b : Nat} (ha : a < 113) (hb : b < 113) (h : powN 4 a 227 = powN 4 b 227) : a = b := by
  have := congrArg logN h
  rw [log_is a ha, log_is b hb] at this; exact this
theorem pow_add (g a b m : Nat) : powN g a m * powN g b m % m = powN g (a + b) m := by
  unfold powN; rw [← Nat.mul_mod, Nat.pow_add]
theorem pow_per (k : Nat) : powN 4 (k % 113) 227 = powN 4 k 227 := by
  have h1 : powN 4 113 227 = 1 := by decide +kernel
  have h2 : ∀ q, powN 4 (113 * q) 227 = 1 := fun q => by
    unfold powN at h1 ⊢
    rw [Nat.pow_mul, Nat.pow_mod, h1, Nat.one_pow]
  have h3 := pow_add 4 (113 * (k / 113)) (k % 113) 227
  rw [h2, Nat.one_mul, show 113 * (k / 113) + k % 113 = k by omega] at h3
  rw [← h3]; unfold powN; rw [Nat.mod_mod]
end Go.Proofs.Ytdhakbpimbadgaa

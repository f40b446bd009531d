/- Chapter 10's mathematics: sums of numbers, sums party by party. -/
import Derived.Test.YtipdflbnnmghdaaMath10
import Derived.Test.YtipdflbnnmghdaaSumI
namespace Go.Proofs.Ytipdflbnnmghdaa
open Go.RowKit

/-- x and y times a number, party by party -/
def mixL (xs ys : List Int) (t : Int) : List Int := (List.range xs.length).map fun i => (xs.getD i 0 + ys.getD i 0 * t) % 113
theorem mixL_length (xs ys : List Int) (t : Int) : (mixL xs ys t).length = xs.length := by simp [mixL]
theorem mixL_get (xs ys : List Int) (t : Int) (k : Nat) (h : k < xs.length) : (mixL xs ys t).getD k 0 = (xs.getD k 0 + ys.getD k 0 * t) % 113 := by simp [mixL, h]
theorem mixL_nums (xs ys : List Int) (t : Int) : Nums (mixL xs ys t) := by
  intro j
  by_cases h : j < xs.length
  · rw [mixL_get _ _ _ _ h]; omega
  · rw [getD_out _ _ (by rw [mixL_length]; omega)]; omega
/-- all of it times a number -/
def scaL (xs : List Int) (t : Int) : List Int := (List.range xs.length).map fun i => xs.getD i 0 * t % 113
theorem scaL_length (xs : List Int) (t : Int) : (scaL xs t).length = xs.length := by simp [scaL]
theorem scaL_get (xs : List Int) (t : Int) (k : Nat) (h : k < xs.length) : (scaL xs t).getD k 0 = xs.getD k 0 * t % 113 := by simp [scaL, h]
theorem scaL_nums (xs : List Int) (t : Int) : Nums (scaL xs t) := by
  intro j
  by_cases h : j < xs.length
  · rw [scaL_get _ _ _ h]; omega
  · rw [getD_out _ _ (by rw [scaL_length]; omega)]; omega
theorem mixL_take (xs ys : List Int) (t : Int) (k : Nat) (h : k < xs.length) : (mixL xs ys t).take (k + 1) = (mixL xs ys t).take k ++ [(xs.getD k 0 + ys.getD k 0 * t) % 113] := by
  rw [take_snocD _ _ (by rw [mixL_length]; exact h), mixL_get _ _ _ _ h]
/-- what was made, with its mark -/
abbrev MkD := List Int × List Int
def markB (d : MkD) : Bool := inB d.1.length 2 7 && (decide (d.2.length = d.1.length) && (numsB d.1 && numsB d.2))
theorem markB_iff {d : MkD} : markB d = true ↔ (2 ≤ d.1.length ∧ d.1.length ≤ 7) ∧ d.2.length = d.1.length ∧ numsB d.1 = true ∧ numsB d.2 = true := by
  simp only [markB, Bool.and_eq_true, inB_iff, decide_eq_true_eq]
  constructor
  · rintro ⟨⟨a, b⟩, c, d, e⟩; exact ⟨⟨by omega, by omega⟩, c, d, e⟩
  · rintro ⟨⟨a, b⟩, c, d, e⟩; exact ⟨⟨by omega, by omega⟩, c, d, e⟩
/-- the number in shares -/
def splitL (a : Int) (rest : List Int) : List Int := ((a - sumI rest) % 113) :: rest
def shiftV (xs : List Int) (t : Int) : List Int := xs.set 0 ((xs.getD 0 0 + t) % 113)
def plusD (x y : MkD) (t : Int) : MkD := (mixL x.1 y.1 t, mixL x.2 y.2 t)
def scaD (x : MkD) (t : Int) : MkD := (scaL x.1 t, scaL x.2 t)
def shiftD (x : MkD) (t : Int) (key : List Int) : MkD := (shiftV x.1 t, mixL x.2 key t)
/-- the number 1 in shares, whose marks are the key's -/
def oneL (n : Nat) : List Int := (List.replicate n 0).set 0 1

theorem mod_mul_add (a b t : Int) : (a + b * t % 113) % 113 = (a + b * t) % 113 := by
  rw [Int.add_emod, Int.emod_emod_of_dvd _ (Int.dvd_refl _), ← Int.add_emod]
theorem mix_of_sca {xs ys : List Int} {t : Int} (h : ys.length = xs.length) : mixL xs (scaL ys t) 1 = mixL xs ys t := by
  apply ext_getD (by simp [mixL_length])
  intro j hj
  rw [mixL_length] at hj
  rw [mixL_get _ _ _ _ hj, mixL_get _ _ _ _ hj, scaL_get _ _ _ (by omega), Int.mul_one, mod_mul_add]
theorem sca_is {xs : List Int} {t : Int} (_h : Nums xs) : mixL xs xs ((t - 1) % 113) = scaL xs t := by
  apply ext_getD (by simp [mixL_length, scaL_length])
  intro j hj
  rw [mixL_length] at hj
  rw [mixL_get _ _ _ _ hj, scaL_get _ _ _ hj]
  generalize xs.getD j 0 = a
  have e : a + a * ((t - 1) % 113) = a * t + 113 * (-(a * ((t - 1) / 113))) := by
    have := Int.emod_add_mul_ediv (t - 1) 113
    have h2 : (t - 1) % 113 = t - 1 - 113 * ((t - 1) / 113) := by omega
    rw [h2]; grind
  rw [e, Int.add_mul_emod_self_left]
theorem oneL_length (n : Nat) : (oneL n).length = n := by simp [oneL]
theorem shift_is {xs : List Int} {t : Int} (hn : Nums xs) (h0 : 0 < xs.length) : mixL xs (scaL (oneL xs.length) t) 1 = shiftV xs t := by
  apply ext_getD (by simp [mixL_length, shiftV])
  intro j hj
  rw [mixL_length] at hj
  rw [mixL_get _ _ _ _ hj, scaL_get _ _ _ (by rw [oneL_length]; exact hj), shiftV, getD_set, oneL, getD_set, zeros_get]
  have := hn j
  by_cases h : 0 = j
  · subst h
    rw [if_pos ⟨rfl, by simpa using h0⟩, if_pos ⟨rfl, h0⟩]; omega
  · rw [if_neg (fun h' => h h'.1), if_neg (fun h' => h h'.1)]; omega
theorem oneL_nums (n : Nat) : Nums (oneL n) := by
  unfold oneL
  exact nums_set (nums_zeros n) 0 1 (by omega) (by omega)
end Go.Proofs.Ytipdflbnnmghdaa

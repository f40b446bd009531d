/- Chapter 2: the program's sums and products are the model's. -/
import Derived.Test.YtipdflbnnmghdaaWalk2h
namespace Go.Proofs.Ytipdflbnnmghdaa
open Go.RowKit

theorem plus_is_add {zs ys : List Int} (hz : Nums zs) : plusL zs ys 1 = addL zs ys := by
  unfold plusL addL
  apply trimL_ext
  intro j
  rw [addAtK_get _ _ _ _ _ _ (by rw [padL_length _ _ (by omega)]; omega), addS_get _ _ _ _ _ (Nat.le_refl _), padL_get, Int.mul_one, Nat.sub_zero]
  have hj := hz j
  by_cases h1 : j < ys.length
  · rw [if_pos (by omega), if_pos (by omega)]
  · rw [if_neg (by omega), getD_out ys j (by omega), Int.add_zero]
    by_cases h2 : j < max zs.length ys.length
    · rw [if_pos h2]; omega
    · rw [if_neg h2, getD_out zs j (by omega)]

theorem zeros_trim (m : Nat) : trimL (List.replicate m 0) = [] := by
  have h : trimL (List.replicate m (0 : Int)) = trimL [] := trimL_ext fun j => by rw [zeros_get]; rfl
  rw [h]; rfl
theorem mulK_nil (m : Nat) (zs : List Int) (k : Nat) : mulK m zs [] k = List.replicate m 0 := by
  induction k with
  | zero => rfl
  | succ k ih => rw [mulK, List.length_nil, addAtK, ih]
theorem times_is_mul (zs ys : List Int) : timesL zs ys = mulL zs ys := by
  unfold timesL mulL
  by_cases h0 : zs.length = 0
  · rw [if_pos (.inl h0), h0, mulK]; exact zeros_trim _
  · by_cases h1 : ys.length = 0
    · rw [if_pos (.inr h1), List.eq_nil_of_length_eq_zero h1, mulK_nil]; exact zeros_trim _
    · rw [if_neg (by omega)]
      exact trimL_ext fun j => mulK_get _ _ _ _ _ _ (Nat.le_refl _) (by omega) (by omega) (by omega)

def R_PolyAdd_1 (a b : List Int) : Bool := polyB a && polyB b
def R_PolyAdd_0 (a b : List Int) : List Int := if R_PolyAdd_1 a b = true then addL a b else []
def R_PolyMul_1 (a b : List Int) : Bool := polyB a && polyB b && decide ((mulL a b).length ≤ 20)
def R_PolyMul_0 (a b : List Int) : List Int := if R_PolyMul_1 a b = true then mulL a b else []
end Go.Proofs.Ytipdflbnnmghdaa

/- Elimination on lists of lists. No word of a program. -/
import Derived.Test.YtbnobkojkfmccaaMath2d
import Derived.Test.YtbnobkojkfmccaaSS3
namespace Go.Proofs.Ytbnobkojkfmccaa
open Go.RowKit

/-- n rows of L numbers -/
def Shp (D : List (List Int)) (n L : Nat) : Prop := D.length = n ∧ ∀ i, i < n → (D.getD i []).length = L ∧ Nums (D.getD i [])
theorem Shp.swap {D : List (List Int)} {n L a k : Nat} (h : Shp D n L) (ha : a < n) (hk : k < n) : Shp (swapR [] D a k) n L := by
  refine ⟨by rw [swapR_length]; exact h.1, fun i hi => ?_⟩
  have hl := h.1
  rw [swapR_get _ _ _ _ _ (by omega) (by omega)]
  refine h.2 _ ?_
  by_cases e1 : i = k
  · rw [if_pos e1]; exact ha
  · rw [if_neg e1]; split <;> omega
theorem Shp.set {D : List (List Int)} {n L k : Nat} {x : List Int} (h : Shp D n L) (hx : x.length = L) (hn : Nums x) : Shp (D.set k x) n L := by
  refine ⟨by rw [List.length_set]; exact h.1, fun i hi => ?_⟩
  have hl := h.1
  by_cases hk : k < D.length
  · rw [getD_set1 _ _ _ _ _ hk]
    by_cases e : k = i
    · rw [if_pos e]; exact ⟨hx, hn⟩
    · rw [if_neg e]; exact h.2 i hi
  · rw [List.set_eq_of_length_le (by omega)]; exact h.2 i hi
/-- the first row from a on with a number other than 0 in column c -/
def pivAt (D : List (List Int)) (c n : Nat) : Nat → Nat → Nat
  | 0, a => a
  | f + 1, a => if a < n then (if (D.getD a []).getD c 0 = 0 then pivAt D c n f (a + 1) else a) else a
theorem pivAt_le (D : List (List Int)) (c n f a : Nat) (h : a + f ≤ n) : a ≤ pivAt D c n f a ∧ pivAt D c n f a ≤ n := by
  induction f generalizing a with
  | zero => simp [pivAt]; omega
  | succ f ih =>
    rw [pivAt]
    split
    · split
      · have := ih (a + 1) (by omega); omega
      · omega
    · omega
theorem pivAt_ne (D : List (List Int)) (c n f a : Nat) (hf : a + f = n) (h : pivAt D c n f a < n) : (D.getD (pivAt D c n f a) []).getD c 0 ≠ 0 := by
  induction f generalizing a with
  | zero => simp only [pivAt] at h; omega
  | succ f ih =>
    rw [pivAt] at h ⊢
    by_cases h1 : a < n
    · rw [if_pos h1] at h ⊢
      by_cases h2 : (D.getD a []).getD c 0 = 0
      · rw [if_pos h2] at h ⊢
        exact ih (a + 1) (by omega) h
      · rw [if_neg h2]; exact h2
    · omega
theorem nums_updJ {F : Nat → Int} {x : List Int} (hx : Nums x) (hF : ∀ j, j < x.length → 0 ≤ F j ∧ F j ≤ 112) (j : Nat) (hj : j ≤ x.length) : Nums (updJ F x j) := fun i => by
  rw [updJ_get _ _ _ _ hj]
  by_cases h : i < j
  · rw [if_pos h]; exact hF i (by omega)
  · rw [if_neg h]; exact hx i
def scaleF (x : List Int) (v : Int) (j : Nat) : Int := x.getD j 0 * v % 113
def elimF (y x : List Int) (f : Int) (j : Nat) : Int := (y.getD j 0 - f * x.getD j 0 % 113) % 113
theorem scaleF_bd (x : List Int) (v : Int) (j : Nat) : 0 ≤ scaleF x v j ∧ scaleF x v j ≤ 112 := by unfold scaleF; omega
theorem elimF_bd (y x : List Int) (f : Int) (j : Nat) : 0 ≤ elimF y x f j ∧ elimF y x f j ≤ 112 := by unfold elimF; omega
def elimI (D : List (List Int)) (k c L : Nat) : Nat → List (List Int)
  | 0 => D
  | i + 1 => if i = k then elimI D k c L i else (elimI D k c L i).set i (updJ (elimF (D.getD i []) (D.getD k []) ((D.getD i []).getD c 0)) (D.getD i []) L)
theorem elimI_length (D : List (List Int)) (k c L i : Nat) : (elimI D k c L i).length = D.length := by
  induction i with
  | zero => rfl
  | succ i ih => rw [elimI]; split <;> simp [ih]
theorem elimI_get (D : List (List Int)) (k c L i j : Nat) (hi : i ≤ D.length) : (elimI D k c L i).getD j [] = if j < i ∧ j ≠ k then updJ (elimF (D.getD j []) (D.getD k []) ((D.getD j []).getD c 0)) (D.getD j []) L else D.getD j [] := by
  induction i with
  | zero => simp [elimI]
  | succ i ih =>
    rw [elimI]
    by_cases h1 : i = k
    · rw [if_pos h1, ih (by omega)]
      by_cases h2 : j < i ∧ j ≠ k
      · rw [if_pos h2, if_pos ⟨by omega, h2.2⟩]
      · rw [if_neg h2, if_neg (by omega)]
    · rw [if_neg h1, getD_set1 _ _ _ _ _ (by rw [elimI_length]; omega), ih (by omega)]
      by_cases h3 : i = j
      · subst h3; rw [if_pos rfl, if_pos ⟨by omega, h1⟩]
      · rw [if_neg h3]
        by_cases h2 : j < i ∧ j ≠ k
        · rw [if_pos h2, if_pos ⟨by omega, h2.2⟩]
        · rw [if_neg h2, if_neg (by omega)]
theorem Shp.elim {D : List (List Int)} {n L k c i : Nat} (h : Shp D n L) (hi : i ≤ n) : Shp (elimI D k c L i) n L := by
  refine ⟨by rw [elimI_length]; exact h.1, fun j hj => ?_⟩
  have hl := h.1
  rw [elimI_get _ _ _ _ _ _ (by omega)]
  have hr := h.2 j hj
  split
  · exact ⟨by rw [updJ_length]; exact hr.1, nums_updJ hr.2 (fun _ _ => elimF_bd _ _ _ _) _ (by omega)⟩
  · exact hr
/-- one column more -/
def redStep (n L : Nat) (S : List (List Int) × List Int) (c : Nat) : List (List Int) × List Int :=
  if pivAt S.1 c n (n - S.2.length) S.2.length = n then S else
    (elimI ((swapR [] S.1 (pivAt S.1 c n (n - S.2.length) S.2.length) S.2.length).set S.2.length (updJ (scaleF ((swapR [] S.1 (pivAt S.1 c n (n - S.2.length) S.2.length) S.2.length).getD S.2.length [])
      (powI (((swapR [] S.1 (pivAt S.1 c n (n - S.2.length) S.2.length) S.2.length).getD S.2.length []).getD c 0) 111 113)) ((swapR [] S.1 (pivAt S.1 c n (n - S.2.length) S.2.length) S.2.length).getD S.2.length []) L)) S.2.length c L n, S.2 ++ [(c : Int)])
def redC (D : List (List Int)) (n L : Nat) : Nat → List (List Int) × List Int
  | 0 => (D, [])
  | c + 1 => redStep n L (redC D n L c) c
end Go.Proofs.Ytbnobkojkfmccaa

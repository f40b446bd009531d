/- Elimination on rows of nine numbers: the same as on rows as wide as the matrix. No word of a program. -/
import Derived.Test.YtbnobkojkfmccaaMath3b
namespace Go.Proofs.Ytbnobkojkfmccaa
open Go.RowKit

theorem map_getD {α β : Type} (f : α → β) (l : List α) (i : Nat) (z : α) (y : β) (h : i < l.length) : (l.map f).getD i y = f (l.getD i z) := by
  simp [List.getD_eq_getElem?_getD, h]
theorem ext_getD' {p q : List (List Int)} (hl : p.length = q.length) (h : ∀ j, j < p.length → p.getD j [] = q.getD j []) : p = q := by
  apply List.ext_getElem hl
  intro j h1 h2
  have := h j h1
  simpa [h1, h2] using this
/-- a row of nine: the coefficients, zeros, and the right side at 8 -/
def E9 (m : Nat) (x : List Int) : List Int := (List.range 9).map fun j => if j < m then x.getD j 0 else if j = 8 then x.getD m 0 else 0
theorem E9_length (m : Nat) (x : List Int) : (E9 m x).length = 9 := by simp [E9]
theorem E9_get (m : Nat) (x : List Int) (j : Nat) (h : j < 9) : (E9 m x).getD j 0 = if j < m then x.getD j 0 else if j = 8 then x.getD m 0 else 0 := by
  unfold E9
  rw [map_getD _ _ j 0 0 (by simpa using h)]
  simp [h]
theorem E9_lt {m : Nat} {x : List Int} {j : Nat} (hm : m ≤ 8) (h : j < m) : (E9 m x).getD j 0 = x.getD j 0 := by rw [E9_get _ _ _ (by omega), if_pos h]
theorem E9_8 {m : Nat} {x : List Int} (hm : m ≤ 8) : (E9 m x).getD 8 0 = x.getD m 0 := by rw [E9_get _ _ _ (by omega), if_neg (by omega), if_pos rfl]
theorem nums_of_getD {x : List Int} {L : Nat} (hl : x.length = L) (h : ∀ j, j < L → 0 ≤ x.getD j 0 ∧ x.getD j 0 ≤ 112) : Nums x := fun j => by
  by_cases hj : j < L
  · exact h j hj
  · simp [List.getElem?_eq_none (show x.length ≤ j by omega)]
theorem nums_E9 {m : Nat} {x : List Int} (h : Nums x) : Nums (E9 m x) := nums_of_getD (E9_length _ _) fun j hj => by
  rw [E9_get _ _ _ hj]
  split
  · exact h j
  · split
    · exact h m
    · omega
/-- a row times a number; a row less another -/
def rt (r : List Int) (v : Int) : List Int := updJ (scaleF r v) r 9
def subF (r o : List Int) (j : Nat) : Int := (r.getD j 0 - o.getD j 0) % 113
def rm (r o : List Int) : List Int := updJ (subF r o) r 9
theorem rt_length (r : List Int) (v : Int) : (rt r v).length = r.length := updJ_length _ _ _
theorem rm_length (r o : List Int) : (rm r o).length = r.length := updJ_length _ _ _
theorem rt_get {r : List Int} (v : Int) {j : Nat} (hr : r.length = 9) (hj : j < 9) : (rt r v).getD j 0 = r.getD j 0 * v % 113 := by
  unfold rt; rw [updJ_get _ _ _ _ (by omega), if_pos hj]; rfl
theorem rm_get {r o : List Int} {j : Nat} (hr : r.length = 9) (hj : j < 9) : (rm r o).getD j 0 = (r.getD j 0 - o.getD j 0) % 113 := by
  unfold rm; rw [updJ_get _ _ _ _ (by omega), if_pos hj]; rfl
theorem subF_bd (r o : List Int) (j : Nat) : 0 ≤ subF r o j ∧ subF r o j ≤ 112 := by unfold subF; omega
theorem nums_rt {r : List Int} {v : Int} (hr : r.length = 9) (h : Nums r) : Nums (rt r v) := nums_updJ h (fun _ _ => scaleF_bd _ _ _) _ (by omega)
theorem nums_rm {r o : List Int} (hr : r.length = 9) (h : Nums r) : Nums (rm r o) := nums_updJ h (fun _ _ => subF_bd _ _ _) _ (by omega)
/-- rows 0 to i taken down by one -/
def takeI (S : List (List Int)) (one : List Int) (c : Nat) : Nat → List (List Int)
  | 0 => S
  | i + 1 => (takeI S one c i).set i (rm (S.getD i []) (rt one ((S.getD i []).getD c 0)))
theorem takeI_length (S : List (List Int)) (one : List Int) (c i : Nat) : (takeI S one c i).length = S.length := by
  induction i with
  | zero => rfl
  | succ i ih => rw [takeI, List.length_set, ih]
theorem takeI_get (S : List (List Int)) (one : List Int) (c i j : Nat) (hi : i ≤ S.length) : (takeI S one c i).getD j [] = if j < i then rm (S.getD j []) (rt one ((S.getD j []).getD c 0)) else S.getD j [] := by
  induction i with
  | zero => simp [takeI]
  | succ i ih =>
    rw [takeI, getD_set1 _ _ _ _ _ (by rw [takeI_length]; omega), ih (by omega)]
    by_cases h3 : i = j
    · subst h3; rw [if_pos rfl, if_pos (by omega)]
    · rw [if_neg h3]
      by_cases h2 : j < i
      · rw [if_pos h2, if_pos (by omega)]
      · rw [if_neg h2, if_neg (by omega)]
def oneOf (S : List (List Int)) (c k : Nat) : List Int := rt (S.getD k []) (powI ((S.getD k []).getD c 0) 111 113)
/-- what taking a column does -/
def takeP (P : List (List Int)) (c k idx n : Nat) : List (List Int) := (takeI (swapR [] P k idx) (oneOf (swapR [] P k idx) c k) c n).set k (oneOf (swapR [] P k idx) c k)
theorem swapR_comm (d : List (List Int)) (a k : Nat) (ha : a < d.length) (hk : k < d.length) : swapR [] d a k = swapR [] d k a := by
  refine ext_getD' (by rw [swapR_length, swapR_length]) fun j _ => ?_
  rw [swapR_get _ _ _ _ _ ha hk, swapR_get _ _ _ _ _ hk ha]
  by_cases h1 : j = k
  · by_cases h2 : j = a
    · subst h1; subst h2; rfl
    · rw [if_pos h1, if_neg h2, if_pos h1]
  · by_cases h2 : j = a
    · rw [if_neg h1, if_pos h2, if_pos h2]
    · rw [if_neg h1, if_neg h2, if_neg h2, if_neg h1]
theorem swapR_map (D : List (List Int)) (f : List Int → List Int) (k a : Nat) (ha : a < D.length) (hk : k < D.length) : swapR [] (D.map f) k a = (swapR [] D k a).map f := by
  refine ext_getD' (by simp [swapR_length]) fun j hj => ?_
  rw [swapR_length, List.length_map] at hj
  rw [swapR_get _ _ _ _ _ (by simpa using hk) (by simpa using ha), map_getD f (swapR [] D k a) j [] [] (by rw [swapR_length]; exact hj), swapR_get _ _ _ _ _ hk ha]
  have hlt : (if j = a then k else if j = k then a else j) < D.length := by split; exact hk; split; exact ha; exact hj
  rw [map_getD f D _ [] [] hlt]
theorem sub_flip (x y z : Int) : (x - y * z % 113) % 113 = (x - z * y % 113) % 113 := by rw [Int.mul_comm]
/-- one column taken: nine wide as on the matrix -/
theorem takeP_is {D : List (List Int)} {n m c k idx : Nat} (hD : Shp D n (m + 1)) (hm : m ≤ 8) (hc : c < m) (hk : k < n) (hi : idx < n) :
    takeP (D.map (E9 m)) c k idx n = (elimI ((swapR [] D idx k).set k (updJ (scaleF ((swapR [] D idx k).getD k []) (powI (((swapR [] D idx k).getD k []).getD c 0) 111 113)) ((swapR [] D idx k).getD k []) (m + 1))) k c (m + 1) n).map (E9 m) := by
  have hl := hD.1
  have hS := hD.swap hi hk
  unfold takeP
  rw [swapR_map _ _ _ _ (by omega) (by omega), ← swapR_comm _ _ _ (by omega) (by omega)]
  generalize hSe : swapR [] D idx k = S at hS ⊢
  have hSl := hS.1
  have hrow : ∀ i, i < n → (S.map (E9 m)).getD i [] = E9 m (S.getD i []) := fun i hi => map_getD _ _ _ _ _ (by omega)
  have hone : oneOf (S.map (E9 m)) c k = rt (E9 m (S.getD k [])) (powI ((S.getD k []).getD c 0) 111 113) := by
    unfold oneOf; rw [hrow k hk, E9_lt hm hc]
  rw [hone]
  generalize hv : powI ((S.getD k []).getD c 0) 111 113 = v
  have hrk := hS.2 k hk
  -- the scaled row
  have hsc : rt (E9 m (S.getD k [])) v = E9 m (updJ (scaleF (S.getD k []) v) (S.getD k []) (m + 1)) := by
    refine ext_getD (by rw [rt_length, E9_length, E9_length]) fun j hj => ?_
    rw [rt_length, E9_length] at hj
    rw [rt_get v (E9_length _ _) hj, E9_get _ _ _ hj, E9_get _ _ _ hj]
    by_cases h1 : j < m
    · rw [if_pos h1, if_pos h1, updJ_get _ _ _ _ (by omega), if_pos (by omega)]; rfl
    · rw [if_neg h1, if_neg h1]
      by_cases h2 : j = 8
      · rw [if_pos h2, if_pos h2, updJ_get _ _ _ _ (by omega), if_pos (by omega)]; rfl
      · rw [if_neg h2, if_neg h2]; simp
  rw [hsc]
  generalize hx : updJ (scaleF (S.getD k []) v) (S.getD k []) (m + 1) = x
  have hxl : x.length = m + 1 := by rw [← hx, updJ_length]; exact hrk.1
  have hDs : ∀ i, (S.set k x).getD i [] = if k = i then x else S.getD i [] := fun i => getD_set1 _ _ _ _ _ (by omega)
  refine ext_getD' (by simp [takeI_length, elimI_length]) fun i hi2 => ?_
  have hi3 : i < n := by simpa [takeI_length, hSl] using hi2
  rw [getD_set1 _ _ _ _ _ (by rw [takeI_length]; simp; omega), takeI_get _ _ _ _ _ (by simp; omega), if_pos hi3, map_getD (E9 m) (elimI (S.set k x) k c (m + 1) n) i [] [] (by rw [elimI_length, List.length_set]; omega), elimI_get _ _ _ _ _ _ (by simp; omega), hDs, hDs, if_pos rfl]
  by_cases hik : k = i
  · rw [if_pos hik, if_neg (by omega), if_pos hik]
  · rw [if_neg hik, if_pos ⟨hi3, fun e => hik e.symm⟩, if_neg hik, hrow i hi3, E9_lt hm hc]
    have hri := hS.2 i hi3
    refine ext_getD (by rw [rm_length, E9_length, E9_length]) fun j hj => ?_
    rw [rm_length, E9_length] at hj
    rw [rm_get (E9_length _ _) hj, rt_get _ (E9_length _ _) hj, E9_get _ _ _ hj, E9_get _ _ _ hj, E9_get _ _ _ hj]
    by_cases h1 : j < m
    · rw [if_pos h1, if_pos h1, if_pos h1, updJ_get _ _ _ _ (by omega), if_pos (by omega)]
      exact sub_flip _ _ _
    · rw [if_neg h1, if_neg h1, if_neg h1]
      by_cases h2 : j = 8
      · rw [if_pos h2, if_pos h2, if_pos h2, updJ_get _ _ _ _ (by omega), if_pos (by omega)]
        exact sub_flip _ _ _
      · rw [if_neg h2, if_neg h2, if_neg h2]; simp
/-- the columns that are not taken -/
def depC (D : List (List Int)) (n L : Nat) : Nat → List Int
  | 0 => []
  | c + 1 => if pivAt (redC D n L c).1 c n (n - (redC D n L c).2.length) (redC D n L c).2.length = n then depC D n L c ++ [(c : Int)] else depC D n L c
theorem depC_bd (D : List (List Int)) (n L c : Nat) : ∀ i, i < (depC D n L c).length → 0 ≤ (depC D n L c).getD i 0 ∧ (depC D n L c).getD i 0 < (c : Int) := by
  induction c with
  | zero => intro i hi; simp [depC] at hi
  | succ c ih =>
    intro i hi
    rw [depC] at hi ⊢
    split at hi
    · rename_i h
      rw [if_pos h, getD_app]
      simp only [List.length_append, List.length_cons, List.length_nil] at hi
      by_cases h4 : i < (depC D n L c).length
      · rw [if_pos h4]; have := ih i h4; omega
      · rw [if_neg h4, if_pos (by omega)]; omega
    · rename_i h
      rw [if_neg h]; have := ih i hi; omega
theorem depC_len (D : List (List Int)) (n L c : Nat) : (redC D n L c).2.length + (depC D n L c).length = c := by
  induction c with
  | zero => rfl
  | succ c ih =>
    rw [depC, redC, redStep]
    split
    · rw [List.length_append]; simp only [List.length_cons, List.length_nil]; omega
    · simp only [List.length_append, List.length_cons, List.length_nil]; omega
/-- pivots alike -/
theorem pivAt_map {D : List (List Int)} {m c n : Nat} (hl : D.length = n) (hm : m ≤ 8) (hc : c < m) (f a : Nat) : pivAt (D.map (E9 m)) c n f a = pivAt D c n f a := by
  induction f generalizing a with
  | zero => rfl
  | succ f ih =>
    rw [pivAt, pivAt]
    by_cases h : a < n
    · rw [if_pos h, if_pos h, map_getD _ _ _ [] _ (by omega), E9_lt hm hc, ih]
    · rw [if_neg h, if_neg h]
theorem pivAt_all (D : List (List Int)) (c n f a : Nat) (hf : a + f = n) (h : pivAt D c n f a = n) (i : Nat) (h1 : a ≤ i) (h2 : i < n) : (D.getD i []).getD c 0 = 0 := by
  induction f generalizing a with
  | zero => omega
  | succ f ih =>
    rw [pivAt, if_pos (by omega)] at h
    split at h
    · rename_i hz
      by_cases e : a = i
      · rw [← e]; exact hz
      · exact ih (a + 1) (by omega) h (by omega)
    · omega
/-- behind the taken rows every column looked at is zero -/
def ZeroB (D : List (List Int)) (k c n : Nat) : Prop := ∀ i, k ≤ i → i < n → ∀ j, j < c → (D.getD i []).getD j 0 = 0
theorem redStep_zero {n L c : Nat} {S : List (List Int) × List Int} (h1 : Shp S.1 n L) (hk : S.2.length ≤ n) (hc : c < L) (hz : ZeroB S.1 S.2.length c n) : ZeroB (redStep n L S c).1 (redStep n L S c).2.length (c + 1) n := by
  unfold redStep
  have hp := pivAt_le S.1 c n (n - S.2.length) S.2.length (by omega)
  split
  · rename_i h
    intro i hi1 hi2 j hj
    by_cases e : j = c
    · subst e; exact pivAt_all _ _ _ _ _ (by omega) h i hi1 hi2
    · exact hz i hi1 hi2 j (by omega)
  · rename_i h
    generalize hP : pivAt S.1 c n (n - S.2.length) S.2.length = p at h hp
    have hkn : S.2.length < n := by omega
    have hne := pivAt_ne S.1 c n (n - S.2.length) S.2.length (by omega) (by rw [hP]; omega)
    rw [hP] at hne
    have hs := h1.swap (show p < n by omega) hkn
    have hl := h1.1
    have hsw := fun i => swapR_get (α := List Int) [] S.1 p S.2.length i (by omega) (by omega)
    generalize hT : swapR [] S.1 p S.2.length = T at hs hsw
    have hkr : T.getD S.2.length [] = S.1.getD p [] := by rw [hsw, if_pos rfl]
    have hTl := hs.1
    have hrk := hs.2 _ hkn
    intro i hi1 hi2 j hj
    simp only [List.length_append, List.length_cons, List.length_nil] at hi1
    rw [elimI_get _ _ _ _ _ _ (by simp; omega), if_pos ⟨hi2, by omega⟩, getD_set1 _ _ _ _ _ (by omega), getD_set1 _ _ _ _ _ (by omega), if_neg (by omega), if_pos rfl]
    have hri := hs.2 i hi2
    rw [updJ_get _ _ _ _ (by omega), if_pos (by omega)]
    unfold elimF
    rw [updJ_get _ _ _ _ (by omega), if_pos (by omega)]
    unfold scaleF
    have hpr := h1.2 p (by omega)
    have hb := hpr.2 c
    rw [hkr]
    by_cases e : j = c
    · subst e
      rw [inv_mul hb.1 hb.2 hne]
      have := hri.2 j
      rw [Int.mul_one, Int.emod_eq_of_lt this.1 (by omega), Int.sub_self]; rfl
    · have h0 : (S.1.getD p []).getD j 0 = 0 := hz p (by omega) (by omega) j (by omega)
      have h2 : (T.getD i []).getD j 0 = 0 := by
        rw [hsw, if_neg (by omega)]
        split
        · exact hz _ (Nat.le_refl _) hkn j (by omega)
        · exact hz i (by omega) hi2 j (by omega)
      rw [h0, h2]; simp
theorem redC_zero {D : List (List Int)} {n L : Nat} (h : Shp D n L) (c : Nat) (hc : c ≤ L) : ZeroB (redC D n L c).1 (redC D n L c).2.length c n := by
  induction c with
  | zero => intro i _ _ j hj; omega
  | succ c ih => exact redStep_zero (redC_inv h c).1 (redC_inv h c).2.1 (by omega) (ih (by omega))
/-- what is taken later stands behind -/
theorem redC_pre (D : List (List Int)) (n L c e : Nat) (h : c ≤ e) : ∃ r, (redC D n L e).2 = (redC D n L c).2 ++ r ∧ ∀ x ∈ r, (c : Int) ≤ x := by
  induction e with
  | zero => obtain rfl : c = 0 := by omega
            exact ⟨[], by simp, by simp⟩
  | succ e ih =>
    by_cases hc : c = e + 1
    · subst hc; exact ⟨[], by simp, by simp⟩
    · obtain ⟨r, hr, hx⟩ := ih (by omega)
      rw [redC, redStep]
      split
      · exact ⟨r, hr, hx⟩
      · refine ⟨r ++ [(e : Int)], by rw [hr, List.append_assoc], fun x hx2 => ?_⟩
        rw [List.mem_append] at hx2
        rcases hx2 with h2 | h2
        · exact hx x h2
        · simp at h2; omega
/-- a column is taken just where the list of taken ones has it next -/
theorem redC_next (D : List (List Int)) (n L c e : Nat) (h : c < e) :
    (pivAt (redC D n L c).1 c n (n - (redC D n L c).2.length) (redC D n L c).2.length = n) ↔ ¬ ((redC D n L c).2.length < (redC D n L e).2.length ∧ (redC D n L e).2.getD (redC D n L c).2.length 0 = (c : Int)) := by
  obtain ⟨r, hr, hx⟩ := redC_pre D n L (c + 1) e (by omega)
  rw [redC, redStep] at hr
  by_cases hp : pivAt (redC D n L c).1 c n (n - (redC D n L c).2.length) (redC D n L c).2.length = n
  · rw [if_pos hp] at hr
    refine ⟨fun _ ⟨h1, h2⟩ => ?_, fun _ => hp⟩
    rw [hr] at h1 h2
    rw [List.length_append] at h1
    have h3 : 0 < r.length := by omega
    have h4 := hx (r.getD 0 0) (by rw [getD_of _ _ h3]; exact List.getElem_mem _)
    have h5 : ((redC D n L c).2 ++ r).getD (redC D n L c).2.length 0 = r.getD 0 0 := by
      simp [List.getD_eq_getElem?_getD, List.getElem?_append_right]
    omega
  · rw [if_neg hp] at hr
    refine ⟨fun h2 => absurd h2 hp, fun h2 => absurd ⟨?_, ?_⟩ h2⟩
    · rw [hr]; simp only [List.length_append, List.length_cons, List.length_nil]; omega
    · rw [hr]; simp [List.getD_eq_getElem?_getD]
end Go.Proofs.Ytbnobkojkfmccaa

/- Chapter 8: depths and degrees: bounds; the degree cut gate by gate; the greatest of a list. -/
import Derived.Test.YtlagkinamnjnhaaMath10
namespace Go.Proofs.Ytlagkinamnjnhaa
open Go.RowKit
set_option maxRecDepth 100000

theorem tell_last (f : Int × Int × Int → List Int → Int) (gs : List (Int × Int × Int)) (k : Nat) : (tellK f gs (k + 1)).getD k 0 = f (gt gs k) (tellK f gs k) := by
  have hl := tellK_length f gs k
  rw [tellK]
  simp only [List.getD_eq_getElem?_getD]
  rw [List.getElem?_append_right (by omega), hl, Nat.sub_self]; rfl
theorem tell_past (f : Int × Int × Int → List Int → Int) (gs : List (Int × Int × Int)) {k j : Nat} (h : k ≤ j) : (tellK f gs k).getD j 0 = 0 := by
  simp only [List.getD_eq_getElem?_getD]
  rw [List.getElem?_eq_none (by rw [tellK_length]; omega)]; rfl
/-- what holds of each told value -/
theorem tell_all {f : Int × Int × Int → List Int → Int} {gs : List (Int × Int × Int)} {m : Int} {n : Nat} (hg : gatesK gs m n = true) (p : Nat → Int → Prop) (h0 : ∀ k, p k 0) (hm : ∀ k x, p k x → p (k + 1) x)
    (hs : ∀ k v, k < n → gateB (gt gs k) k m = true → (∀ j : Nat, p k (v.getD j 0)) → p (k + 1) (f (gt gs k) v)) (k : Nat) (hk : k ≤ n) : ∀ j : Nat, p k ((tellK f gs k).getD j 0) := by
  induction k with
  | zero => intro j; simp only [tellK, List.getD_nil]; exact h0 0
  | succ k ih =>
    intro j
    have ih := ih (by omega)
    by_cases hj : j < k
    · rw [tellK_old f gs (Nat.le_succ k) hj]; exact hm k _ (ih j)
    · by_cases hj2 : j = k
      · subst hj2; rw [tell_last]; exact hs j _ (by omega) (gatesK_at hg (by omega)) ih
      · rw [tell_past f gs (by omega)]; exact h0 _
theorem dep_bd {gs : List (Int × Int × Int)} {m : Int} {n : Nat} (hg : gatesK gs m n = true) (k : Nat) (hk : k ≤ n) (j : Nat) : 0 ≤ (tellK depG gs k).getD j 0 ∧ (tellK depG gs k).getD j 0 ≤ k := by
  refine tell_all hg (fun k x => 0 ≤ x ∧ x ≤ (k : Int)) (fun k => by omega) (fun k x h => by omega) (fun k v _ hB h => ?_) k hk j
  have h1 := h (gt gs k).2.1.toNat
  have h2 := h (gt gs k).2.2.toNat
  simp only [depG]
  split
  · omega
  · split
    · omega
    · omega
theorem dcut_bd {gs : List (Int × Int × Int)} {m : Int} {n : Nat} (hg : gatesK gs m n = true) (k : Nat) (hk : k ≤ n) (j : Nat) : 0 ≤ (tellK dcutG gs k).getD j 0 ∧ (tellK dcutG gs k).getD j 0 ≤ 1000 := by
  refine tell_all hg (fun _ x => 0 ≤ x ∧ x ≤ (1000 : Int)) (fun k => by omega) (fun k x h => by omega) (fun k v _ hB h => ?_) k hk j
  have h1 := h (gt gs k).2.1.toNat
  have h2 := h (gt gs k).2.2.toNat
  simp only [dcutG]
  split
  · omega
  · split
    · omega
    · split
      · omega
      · omega
theorem deg_bd {gs : List (Int × Int × Int)} {m : Int} {n : Nat} (hg : gatesK gs m n = true) (k : Nat) (hk : k ≤ n) (j : Nat) : 0 ≤ (tellK degG gs k).getD j 0 ∧ (tellK degG gs k).getD j 0 ≤ (2 ^ k : Nat) := by
  refine tell_all hg (fun k x => 0 ≤ x ∧ x ≤ ((2 ^ k : Nat) : Int)) (fun k => by have := Nat.pow_pos (n := k) (show 0 < 2 by omega); omega) (fun k x h => by have := Nat.pow_succ 2 k; omega) (fun k v _ hB h => ?_) k hk j
  have h1 := h (gt gs k).2.1.toNat
  have h2 := h (gt gs k).2.2.toNat
  have h3 := Nat.pow_succ 2 k
  have h4 := Nat.pow_pos (n := k) (show 0 < 2 by omega)
  simp only [degG]
  split
  · omega
  · split
    · omega
    · split
      · omega
      · omega
theorem deg_bd16 {gs : List (Int × Int × Int)} {m : Int} {n : Nat} (hg : gatesK gs m n = true) (hn : n ≤ 16) (k : Nat) (hk : k ≤ n) (j : Nat) : 0 ≤ (tellK degG gs k).getD j 0 ∧ (tellK degG gs k).getD j 0 ≤ 65536 := by
  have h := deg_bd hg k hk j
  have h2 : 2 ^ k ≤ 2 ^ 16 := Nat.pow_le_pow_right (by omega) (by omega)
  have h3 : 2 ^ 16 = 65536 := by decide
  omega
theorem dcut_is {gs : List (Int × Int × Int)} {m : Int} {n : Nat} (hg : gatesK gs m n = true) (k : Nat) (hk : k ≤ n) (j : Nat) : (tellK dcutG gs k).getD j 0 = min 1000 ((tellK degG gs k).getD j 0) := by
  induction k generalizing j with
  | zero => simp only [tellK, List.getD_nil]; omega
  | succ k ih =>
    have ih := ih (by omega)
    by_cases hj : j < k
    · rw [tellK_old dcutG gs (Nat.le_succ k) hj, tellK_old degG gs (Nat.le_succ k) hj]; exact ih j
    · by_cases hj2 : j = k
      · subst hj2
        rw [tell_last, tell_last]
        have h1 := ih (gt gs j).2.1.toNat
        have h2 := ih (gt gs j).2.2.toNat
        have b1 := deg_bd hg j (by omega) (gt gs j).2.1.toNat
        have b2 := deg_bd hg j (by omega) (gt gs j).2.2.toNat
        simp only [dcutG, degG]
        split
        · omega
        · split
          · omega
          · split
            · omega
            · omega
      · rw [tell_past dcutG gs (by omega), tell_past degG gs (by omega)]; omega
theorem most_cut {os v u : List Int} (h : ∀ j : Nat, v.getD j 0 = min 1000 (u.getD j 0)) (k : Nat) : min 1000 (mostK os v k) = min 1000 (mostK os u k) := by
  induction k with
  | zero => rfl
  | succ k ih =>
    have := h (os.getD k 0).toNat
    simp only [mostK]
    omega
theorem most_bd {os v : List Int} {t : Int} (ht : 0 ≤ t) (h : ∀ j : Nat, 0 ≤ v.getD j 0 ∧ v.getD j 0 ≤ t) (k : Nat) : 0 ≤ mostK os v k ∧ mostK os v k ≤ t := by
  induction k with
  | zero => simp only [mostK]; omega
  | succ k ih =>
    have := h (os.getD k 0).toNat
    simp only [mostK]
    omega
/-- the greatest of the first k of a list (k = 0: the first one) -/
def topK (xs : List Int) : Nat → Int
  | 0 => xs.getD 0 0
  | k + 1 => max (topK xs k) (xs.getD k 0)
theorem outK_get (os v : List Int) {k n : Nat} (h : k < n) : (outK os v n).getD k 0 = v.getD (os.getD k 0).toNat 0 := by
  induction n with
  | zero => omega
  | succ n ih =>
    have hl := outK_length os v n
    rw [outK]
    simp only [List.getD_eq_getElem?_getD]
    by_cases hk : k < n
    · rw [List.getElem?_append_left (by omega), ← List.getD_eq_getElem?_getD, ih hk]; simp only [List.getD_eq_getElem?_getD]
    · rw [List.getElem?_append_right (by omega), hl, show k - n = 0 by omega, show k = n by omega]; rfl
theorem top_most {os v : List Int} (h : ∀ j : Nat, 0 ≤ v.getD j 0) {n : Nat} (k : Nat) (hk : k ≤ n) (h1 : 1 ≤ k) : topK (outK os v n) k = mostK os v k := by
  induction k with
  | zero => omega
  | succ k ih =>
    simp only [topK, mostK]
    rw [outK_get os v (show k < n by omega)]
    by_cases hk0 : k = 0
    · subst hk0
      simp only [topK, mostK]
      rw [outK_get os v (show 0 < n by omega)]
      have := h (os.getD 0 0).toNat
      omega
    · rw [ih (by omega) (by omega)]
end Go.Proofs.Ytlagkinamnjnhaa

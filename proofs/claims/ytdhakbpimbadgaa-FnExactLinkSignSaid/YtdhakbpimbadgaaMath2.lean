/- Lists of numbers as polynomials: plain arithmetic, with no word of a program. -/
import Derived.Test.YtdhakbpimbadgaaMath1
namespace Go.Proofs.Ytdhakbpimbadgaa
/-- each place holds a number (0 behind the end) -/
def Nums (zs : List Int) : Prop := ∀ j, 0 ≤ zs.getD j 0 ∧ zs.getD j 0 ≤ 112
def numsB (zs : List Int) : Bool := zs.all numB
def lastB (zs : List Int) : Bool := zs.isEmpty || (zs.getD (zs.length - 1) 0 != 0)
def polyB (zs : List Int) : Bool := decide (zs.length ≤ 20) && numsB zs && lastB zs
/-- the value of coefficients -/
def atI : List Int → Int → Int
  | [], _ => 0
  | a :: t, x => (atI t x * x + a) % 113

theorem getD_of (zs : List Int) (j : Nat) (h : j < zs.length) : zs.getD j 0 = zs[j] := by simp [h]
theorem nums_of_B {zs : List Int} (h : numsB zs = true) : Nums zs := by
  intro j
  by_cases hj : j < zs.length
  · rw [getD_of zs j hj]
    have := List.all_eq_true.1 h zs[j] (List.getElem_mem hj)
    exact (numB_iff _).1 this
  · have : zs.getD j 0 = 0 := by simp [List.getElem?_eq_none (show zs.length ≤ j by omega)]
    rw [this]; omega
theorem B_of_nums {zs : List Int} (h : Nums zs) : numsB zs = true := by
  apply List.all_eq_true.2
  intro x hx
  obtain ⟨j, hj, rfl⟩ := List.getElem_of_mem hx
  have := h j
  rw [getD_of zs j hj] at this
  exact (numB_iff _).2 this
theorem numsB_take (zs : List Int) (k : Nat) (hk : k < zs.length) : numsB (zs.take (k + 1)) = (numsB (zs.take k) && numB (zs.getD k 0)) := by
  rw [List.take_succ_eq_append_getElem hk, getD_of zs k hk]
  unfold numsB
  rw [List.all_append]; simp
theorem numsB_bad (zs : List Int) (k : Nat) (hk : k < zs.length) (h : numB (zs.getD k 0) = false) : numsB zs = false := by
  rw [getD_of zs k hk] at h
  apply Bool.eq_false_iff.2
  intro ht
  rw [List.all_eq_true.1 ht zs[k] (List.getElem_mem hk)] at h
  cases h
theorem numsB_all (zs : List Int) : numsB (zs.take zs.length) = numsB zs := by rw [List.take_length]
theorem polyB_nums {zs : List Int} (h : polyB zs = true) : Nums zs := by
  simp only [polyB, Bool.and_eq_true] at h; exact nums_of_B h.1.2
theorem polyB_len {zs : List Int} (h : polyB zs = true) : zs.length ≤ 20 := by
  simp only [polyB, Bool.and_eq_true, decide_eq_true_eq] at h; exact h.1.1
theorem polyB_last {zs : List Int} (h : polyB zs = true) (h0 : 0 < zs.length) : zs.getD (zs.length - 1) 0 ≠ 0 := by
  simp only [polyB, Bool.and_eq_true, lastB, Bool.or_eq_true, bne_iff_ne, List.isEmpty_iff] at h
  rcases h.2 with h | h
  · rw [h] at h0; simp at h0
  · exact h
theorem polyB_long {zs : List Int} (h : ¬ zs.length ≤ 20) : polyB zs = false := by simp [polyB, h]
theorem polyB_bad {zs : List Int} (h : numsB zs = false) : polyB zs = false := by simp [polyB, h]
theorem polyB_nil {zs : List Int} (h : zs.length = 0) : polyB zs = true := by
  rw [List.eq_nil_of_length_eq_zero h]; rfl
theorem polyB_zero {zs : List Int} (h0 : 0 < zs.length) (h : zs.getD (zs.length - 1) 0 = 0) : polyB zs = false := by
  have : zs.isEmpty = false := by cases zs <;> simp_all
  simp only [polyB, lastB, this, h]; simp
theorem polyB_good {zs : List Int} (h : zs.length ≤ 20) (h1 : numsB zs = true) (h2 : zs.getD (zs.length - 1) 0 ≠ 0) : polyB zs = true := by
  simp only [polyB, lastB, h, h1]
  simp only [decide_true, Bool.true_and, Bool.or_eq_true, bne_iff_ne]
  exact .inr h2

theorem atI_lo (zs : List Int) (x : Int) : 0 ≤ atI zs x := by cases zs <;> simp only [atI] <;> omega
theorem atI_hi (zs : List Int) (x : Int) : atI zs x ≤ 112 := by cases zs <;> simp only [atI] <;> omega
theorem atI_drop (zs : List Int) (x : Int) (j : Nat) (h : j < zs.length) : atI (zs.drop j) x = (atI (zs.drop (j + 1)) x * x + zs.getD j 0) % 113 := by
  rw [List.drop_eq_getElem_cons h, getD_of zs j h]; rfl
theorem atI_end (zs : List Int) (x : Int) : atI (zs.drop zs.length) x = 0 := by rw [List.drop_length]; rfl

/-! trailing zeros -/
/-- without the zeros at the end -/
def trimL (p : List Int) : List Int := (p.reverse.dropWhile (· == 0)).reverse
theorem trimL_snoc0 (p : List Int) : trimL (p ++ [0]) = trimL p := by simp [trimL]
theorem trimL_snoc (p : List Int) (a : Int) (h : a ≠ 0) : trimL (p ++ [a]) = p ++ [a] := by
  simp [trimL, h]
theorem take_snocD (p : List Int) (n : Nat) (h : n < p.length) : p.take (n + 1) = p.take n ++ [p.getD n 0] := by
  rw [List.take_succ_eq_append_getElem h, getD_of p n h]
/-- as the loop comes down: behind n all is 0 -/
theorem trimL_down (p : List Int) (n : Nat) (hn : n < p.length) (h0 : p.getD n 0 = 0) : trimL (p.take (n + 1)) = trimL (p.take n) := by
  rw [take_snocD p n hn, h0, trimL_snoc0]
theorem trimL_stop (p : List Int) (n : Nat) (hn : n < p.length) (h0 : p.getD n 0 ≠ 0) : trimL (p.take (n + 1)) = p.take (n + 1) := by
  rw [take_snocD p n hn, trimL_snoc _ _ h0]
theorem trimL_nil : trimL [] = [] := rfl
theorem trimL_get (p : List Int) (j : Nat) : (trimL p).getD j 0 = p.getD j 0 := by
  induction hn : p.length generalizing p with
  | zero => rw [List.eq_nil_of_length_eq_zero hn]; rfl
  | succ n ih =>
    have hp : p = p.take n ++ [p.getD n 0] := by rw [← take_snocD p n (by omega), List.take_of_length_le (by omega)]
    generalize p.getD n 0 = a at hp
    have hl : (p.take n).length = n := by simp; omega
    generalize p.take n = q at hp hl
    subst hp
    by_cases ha : a = 0
    · subst ha
      rw [trimL_snoc0, ih q hl]
      by_cases hj : j < q.length
      · simp [List.getElem?_append_left hj]
      · rw [List.getD_eq_getElem?_getD, List.getD_eq_getElem?_getD, List.getElem?_eq_none (by omega)]
        by_cases hj2 : j = q.length
        · subst hj2; simp
        · rw [List.getElem?_eq_none (by simp; omega)]
    · rw [trimL_snoc _ _ ha]
theorem trimL_len (p : List Int) : (trimL p).length ≤ p.length := by
  unfold trimL
  have := (List.dropWhile_sublist (l := p.reverse) (p := (· == 0))).length_le
  simpa using this
theorem trimL_last (p : List Int) (h : 0 < (trimL p).length) : (trimL p).getD ((trimL p).length - 1) 0 ≠ 0 := by
  induction hn : p.length generalizing p with
  | zero => rw [List.eq_nil_of_length_eq_zero hn] at h; simp [trimL] at h
  | succ n ih =>
    have hp : p = p.take n ++ [p.getD n 0] := by rw [← take_snocD p n (by omega), List.take_of_length_le (by omega)]
    generalize p.getD n 0 = a at hp
    have hl : (p.take n).length = n := by simp; omega
    generalize p.take n = q at hp hl
    subst hp
    by_cases ha : a = 0
    · subst ha
      rw [trimL_snoc0] at h ⊢
      exact ih q h hl
    · rw [trimL_snoc _ _ ha]; simpa using ha
/-- lists of one length that agree everywhere -/
theorem ext_getD {p q : List Int} (hl : p.length = q.length) (h : ∀ j, j < p.length → p.getD j 0 = q.getD j 0) : p = q := by
  apply List.ext_getElem hl
  intro j h1 h2
  have := h j h1
  rwa [getD_of p j h1, getD_of q j h2] at this
/-- the last one not 0 on both sides, and the same everywhere: the same -/
theorem last_ext {p q : List Int} (h1 : 0 < p.length → p.getD (p.length - 1) 0 ≠ 0) (h2 : 0 < q.length → q.getD (q.length - 1) 0 ≠ 0) (h : ∀ j, p.getD j 0 = q.getD j 0) : p = q := by
  have out : ∀ (r : List Int) (j : Nat), r.length ≤ j → r.getD j 0 = 0 := by intro r j hj; simp [List.getElem?_eq_none hj]
  have hl : p.length = q.length := by
    rcases Nat.lt_trichotomy p.length q.length with hc | hc | hc
    · have := h2 (by omega); rw [← h, out p _ (by omega)] at this; exact absurd rfl this
    · exact hc
    · have := h1 (by omega); rw [h, out q _ (by omega)] at this; exact absurd rfl this
  exact ext_getD hl fun j _ => h j
theorem trimL_ext {p q : List Int} (h : ∀ j, p.getD j 0 = q.getD j 0) : trimL p = trimL q :=
  last_ext (trimL_last p) (trimL_last q) fun j => by rw [trimL_get, trimL_get, h]
theorem trimL_same {p : List Int} (h : 0 < p.length → p.getD (p.length - 1) 0 ≠ 0) : trimL p = p :=
  last_ext (trimL_last p) h fun j => trimL_get p j
theorem nums_trim {p : List Int} (h : Nums p) : Nums (trimL p) := fun j => by rw [trimL_get]; exact h j
theorem polyB_trim {p : List Int} (h : Nums p) (hl : (trimL p).length ≤ 20) : polyB (trimL p) = true := by
  by_cases h0 : (trimL p).length = 0
  · exact polyB_nil h0
  · exact polyB_good hl (B_of_nums (nums_trim h)) (trimL_last p (by omega))
end Go.Proofs.Ytdhakbpimbadgaa

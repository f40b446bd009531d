/- Polynomials over the numbers: values of sums and products; as few zeros as coefficients; one polynomial through points. -/
import Derived.Test.YtipdflbnnmghdaaMath2b
namespace Go.Proofs.Ytipdflbnnmghdaa

/-- the value, not reduced -/
def sv : List Int → Int → Int
  | [], _ => 0
  | a :: t, x => sv t x * x + a
theorem mod_of {a b : Int} (k : Int) (h : a = b + 113 * k) : a % 113 = b % 113 := by omega
theorem of_mod {a b : Int} (h : a % 113 = b % 113) : ∃ k, a = b + 113 * k := ⟨a / 113 - b / 113, by omega⟩
theorem atI_sv (p : List Int) (x : Int) : atI p x = sv p x % 113 := by
  induction p with
  | nil => rfl
  | cons a t ih =>
    rw [atI, sv, ih]
    exact mod_of (-(sv t x / 113) * x) (by have : sv t x % 113 = sv t x - 113 * (sv t x / 113) := by omega
                                           rw [this]; grind)
theorem sv_nil (x : Int) : sv [] x = 0 := rfl
theorem sv_snoc (l : List Int) (a x : Int) : sv (l ++ [a]) x = sv l x + a * x ^ l.length := by
  induction l with
  | nil => simp [sv]
  | cons b t ih => simp only [List.cons_append, sv, ih, List.length_cons, Int.pow_succ]; grind
theorem sv_take (p : List Int) (x : Int) (k : Nat) : sv (p.take (k + 1)) x = sv (p.take k) x + p.getD k 0 * x ^ k := by
  by_cases h : k < p.length
  · rw [take_snocD p k h, sv_snoc, List.length_take, Nat.min_eq_left (by omega)]
  · rw [List.take_of_length_le (by omega), List.take_of_length_le (by omega), getD_out p k (by omega)]; simp
theorem sv_set (l : List Int) (i : Nat) (v x : Int) (h : i < l.length) : sv (l.set i v) x = sv l x + (v - l.getD i 0) * x ^ i := by
  induction l generalizing i with
  | nil => simp at h
  | cons b t ih =>
    cases i with
    | zero => simp only [List.set_cons_zero, sv, List.getD_cons_zero, Int.pow_zero]; grind
    | succ i =>
      simp only [List.set_cons_succ, sv, List.getD_cons_succ, Int.pow_succ]
      rw [ih i (by simpa using h)]; grind
theorem sv_ext (p q : List Int) (h : ∀ j, p.getD j 0 = q.getD j 0) (x : Int) : sv p x = sv q x := by
  induction p generalizing q with
  | nil =>
    induction q with
    | nil => rfl
    | cons b t ih =>
      have hb : b = 0 := by have := h 0; simpa using this.symm
      have e := ih (fun j => by have := h (j + 1); simpa using this)
      show (0 : Int) = sv t x * x + b
      rw [hb, ← e]; simp [sv]
  | cons a p ih =>
    cases q with
    | nil =>
      have ha : a = 0 := by have := h 0; simpa using this
      have e := ih [] (fun j => by have := h (j + 1); simpa using this)
      show sv p x * x + a = 0
      rw [e, ha]; simp [sv]
    | cons b q =>
      have ha : a = b := by have := h 0; simpa using this
      rw [sv, sv, ih q (fun j => by have := h (j + 1); simpa using this), ha]
theorem sv_trim (p : List Int) (x : Int) : sv (trimL p) x = sv p x := sv_ext _ _ (trimL_get p) x
theorem sv_zeros (m : Nat) (x : Int) : sv (List.replicate m 0) x = 0 := sv_ext _ [] (fun j => by rw [zeros_get]; rfl) x
theorem sv_addAtK (zs : List Int) (idx : Nat) (ys : List Int) (c : Int) (k : Nat) (h : idx + k ≤ zs.length) (x : Int) : ∃ t, sv (addAtK zs idx ys c k) x = sv zs x + c * x ^ idx * sv (ys.take k) x + 113 * t := by
  induction k with
  | zero => exact ⟨0, by simp [addAtK, sv]⟩
  | succ k ih =>
    obtain ⟨t, ht⟩ := ih (by omega)
    rw [addAtK, sv_set _ _ _ _ (by rw [addAtK_length]; omega), ht, sv_take, Int.pow_add]
    generalize (addAtK zs idx ys c k).getD (idx + k) 0 = l
    generalize ys.getD k 0 = y
    have e : (l + y * c) % 113 = l + y * c - 113 * ((l + y * c) / 113) := by omega
    rw [e]
    exact ⟨t - ((l + y * c) / 113) * (x ^ idx * x ^ k), by grind⟩
theorem sv_mulK (m : Nat) (zs ys : List Int) (k : Nat) (h : k + ys.length ≤ m + 1) (x : Int) : ∃ t, sv (mulK m zs ys k) x = sv (zs.take k) x * sv ys x + 113 * t := by
  induction k with
  | zero => exact ⟨0, by rw [mulK, sv_zeros]; simp [sv]⟩
  | succ k ih =>
    obtain ⟨t, ht⟩ := ih (by omega)
    obtain ⟨u, hu⟩ := sv_addAtK (mulK m zs ys k) k ys (zs.getD k 0) ys.length (by rw [mulK_length]; omega) x
    rw [mulK, hu, ht, sv_take, List.take_length]
    exact ⟨t + u, by grind⟩
theorem sv_mulL (zs ys : List Int) (x : Int) : ∃ t, sv (mulL zs ys) x = sv zs x * sv ys x + 113 * t := by
  unfold mulL
  split
  · rename_i h
    refine ⟨0, ?_⟩
    rcases h with h | h <;> rw [List.eq_nil_of_length_eq_zero h] <;> simp [sv]
  · rename_i h
    obtain ⟨t, ht⟩ := sv_mulK (zs.length + ys.length - 1) zs ys zs.length (by omega) x
    rw [sv_trim, ht, List.take_length]; exact ⟨t, rfl⟩
theorem sv_addS (m : Nat) (zs ys : List Int) (k : Nat) (h : k ≤ m) (x : Int) : ∃ t, sv (addS m zs ys k) x = sv (zs.take k) x + sv (ys.take k) x + 113 * t := by
  induction k with
  | zero => exact ⟨0, by rw [addS, sv_zeros]; simp [sv]⟩
  | succ k ih =>
    obtain ⟨t, ht⟩ := ih (by omega)
    rw [addS, sv_set _ _ _ _ (by rw [addS_length]; omega), ht, sv_take, sv_take, addS_get _ _ _ _ _ (by omega), if_neg (by omega)]
    generalize zs.getD k 0 = a
    generalize ys.getD k 0 = b
    have e : (a + b) % 113 = a + b - 113 * ((a + b) / 113) := by omega
    rw [e]
    exact ⟨t - ((a + b) / 113) * x ^ k, by grind⟩
theorem sv_addL (zs ys : List Int) (x : Int) : ∃ t, sv (addL zs ys) x = sv zs x + sv ys x + 113 * t := by
  unfold addL
  obtain ⟨t, ht⟩ := sv_addS (max zs.length ys.length) zs ys _ (Nat.le_refl _) x
  rw [sv_trim, ht, List.take_of_length_le (by omega), List.take_of_length_le (by omega)]
  exact ⟨t, rfl⟩
theorem sv_plusL (zs ys : List Int) (c x : Int) : ∃ t, sv (plusL zs ys c) x = sv zs x + c * sv ys x + 113 * t := by
  unfold plusL
  obtain ⟨t, ht⟩ := sv_addAtK (padL zs (max zs.length ys.length)) 0 ys c ys.length (by rw [padL_length _ _ (by omega)]; omega) x
  rw [sv_trim, ht, List.take_length, sv_ext (padL zs _) zs (padL_get zs _)]
  exact ⟨t, by simp⟩

/-! zeros -/
/-- the quotient by x minus r -/
def quo (r : Int) : List Int → List Int
  | [] => []
  | _ :: t => sv t r :: quo r t
theorem sv_quo (r : Int) (p : List Int) (x : Int) : sv p x - sv p r = (x - r) * sv (quo r p) x := by
  induction p with
  | nil => simp [sv, quo]
  | cons a t ih =>
    have e : sv t x = sv t r + (x - r) * sv (quo r t) x := by omega
    simp only [sv, quo]
    rw [e]; grind
theorem quo_get (r : Int) (p : List Int) (j : Nat) : (quo r p).getD j 0 = sv (p.drop (j + 1)) r := by
  induction p generalizing j with
  | nil => simp [quo, sv]
  | cons a t ih =>
    cases j with
    | zero => simp [quo]
    | succ j => simp only [quo, List.getD_cons_succ, List.drop_succ_cons]; exact ih j
theorem sv_none (p : List Int) (h : ∀ j, p.getD j 0 % 113 = 0) (x : Int) : sv p x % 113 = 0 := by
  induction p with
  | nil => rfl
  | cons a t ih =>
    have ha : a % 113 = 0 := by have := h 0; simpa using this
    have hi := ih (fun j => by have := h (j + 1); simpa using this)
    rw [sv]
    have e : sv t x = 113 * (sv t x / 113) := by omega
    have e2 : sv t x * x = 113 * (sv t x / 113 * x) := by rw [← Int.mul_assoc, ← e]
    omega
theorem drop_get (p : List Int) (i j : Nat) : (p.drop i).getD j 0 = p.getD (i + j) 0 := by simp [List.getD_eq_getElem?_getD]
theorem prime_all : ∀ a, a < 113 → ∀ b, b < 113 → a * b % 113 = 0 → a = 0 ∨ b = 0 := by decide +kernel
theorem prime_int {a b : Int} (h : a * b % 113 = 0) (ha : a % 113 ≠ 0) : b % 113 = 0 := by
  obtain ⟨A, hA⟩ := Int.eq_ofNat_of_zero_le (show 0 ≤ a % 113 by omega)
  obtain ⟨B, hB⟩ := Int.eq_ofNat_of_zero_le (show 0 ≤ b % 113 by omega)
  have h2 : (A : Int) * (B : Int) % 113 = 0 := by rw [← hA, ← hB, ← Int.mul_emod]; exact h
  have h3 : A * B % 113 = 0 := by have : ((A * B % 113 : Nat) : Int) = 0 := by simpa using h2
                                  omega
  rcases prime_all A (by omega) B (by omega) h3 with h | h
  · omega
  · omega
/-- no more zeros than coefficients -/
theorem few_zeros (xs : List Int) : ∀ (p : List Int), (∀ j, xs.length ≤ j → p.getD j 0 % 113 = 0) → (∀ x ∈ xs, sv p x % 113 = 0) → xs.Pairwise (fun a b => (a - b) % 113 ≠ 0) → ∀ j, p.getD j 0 % 113 = 0 := by
  induction xs with
  | nil => intro p h _ _ j; exact h j (Nat.zero_le _)
  | cons r rest ih =>
    intro p hd hz hpw
    rw [List.pairwise_cons] at hpw
    have hr := hz r (List.mem_cons_self)
    have hq : ∀ j, (quo r p).getD j 0 % 113 = 0 := by
      refine ih (quo r p) ?_ ?_ hpw.2
      · intro j hj
        rw [quo_get]
        exact sv_none _ (fun i => by rw [drop_get]; exact hd _ (by simp only [List.length_cons]; omega)) r
      · intro x hx
        have e := sv_quo r p x
        have h1 := hz x (List.mem_cons_of_mem _ hx)
        refine prime_int (a := x - r) (by rw [← e]; omega) ?_
        have := hpw.1 x hx
        omega
    intro j
    have hs : ∀ i, sv (p.drop i) r % 113 = 0 := by
      intro i
      cases i with
      | zero => exact hr
      | succ i => rw [← quo_get]; exact hq i
    by_cases hj : j < p.length
    · have h0 := hs j
      have h1 := hs (j + 1)
      rw [List.drop_eq_getElem_cons hj, ← getD_of p j hj, sv] at h0
      have e2 : sv (p.drop (j + 1)) r * r = 113 * (sv (p.drop (j + 1)) r / 113 * r) := by
        rw [← Int.mul_assoc, ← show sv (p.drop (j + 1)) r = 113 * (sv (p.drop (j + 1)) r / 113) by omega]
      omega
    · rw [getD_out p j (by omega)]; rfl
/-- the difference, not reduced -/
theorem sv_range (f : Nat → Int) (m : Nat) (x : Int) : sv ((List.range (m + 1)).map f) x = sv ((List.range m).map f) x + f m * x ^ m := by
  rw [List.range_succ, List.map_append, List.map_cons, List.map_nil, sv_snoc]; simp
theorem sv_dif (p q : List Int) (m : Nat) (x : Int) : sv ((List.range m).map fun j => p.getD j 0 - q.getD j 0) x = sv (p.take m) x - sv (q.take m) x := by
  induction m with
  | zero => simp [sv]
  | succ m ih => rw [sv_range, ih, sv_take, sv_take]; grind
/-- one polynomial through points -/
theorem one_through (xs : List Int) (p q : List Int) (hp : Nums p) (hq : Nums q) (lp : p.length ≤ xs.length) (lq : q.length ≤ xs.length) (hpw : xs.Pairwise (fun a b => (a - b) % 113 ≠ 0))
    (h : ∀ x ∈ xs, atI p x = atI q x) : ∀ j, p.getD j 0 = q.getD j 0 := by
  intro j
  have hz := few_zeros xs ((List.range xs.length).map fun j => p.getD j 0 - q.getD j 0) (fun j hj => by rw [getD_out _ _ (by simpa using hj)]; rfl)
    (fun x hx => by
      rw [sv_dif, List.take_of_length_le lp, List.take_of_length_le lq]
      have := h x hx
      rw [atI_sv, atI_sv] at this
      omega) hpw
  by_cases hj : j < xs.length
  · have := hz j
    rw [getD_of _ _ (by simpa using hj)] at this
    simp only [List.getElem_map, List.getElem_range] at this
    have h1 := hp j
    have h2 := hq j
    omega
  · rw [getD_out p j (by omega), getD_out q j (by omega)]
end Go.Proofs.Ytipdflbnnmghdaa

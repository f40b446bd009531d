/- The polynomial through points: the program's way and the model's come to one. -/
import Derived.Test.YtipdflbnnmghdaaMath2c
namespace Go.Proofs.Ytipdflbnnmghdaa

def px (ps : List (Int × Int)) (i : Nat) : Int := (ps.getD i (0, 0)).1
def py (ps : List (Int × Int)) (i : Nat) : Int := (ps.getD i (0, 0)).2
def seenB (ps : List (Int × Int)) (k : Nat) (x : Int) : Bool := (List.range k).any fun i => px ps i == x
def okK (ps : List (Int × Int)) : Nat → Bool
  | 0 => true
  | k + 1 => okK ps k && (numB (px ps k) && numB (py ps k)) && !(seenB ps k (px ps k))
def ptsB (ps : List (Int × Int)) : Bool := decide (ps.length ≤ 20) && okK ps ps.length

theorem seenB_iff (ps : List (Int × Int)) (k : Nat) (x : Int) : seenB ps k x = true ↔ ∃ i, i < k ∧ px ps i = x := by
  simp [seenB]
theorem seenB_succ (ps : List (Int × Int)) (k : Nat) (x : Int) : seenB ps (k + 1) x = (seenB ps k x || px ps k == x) := by
  simp [seenB, List.range_succ]
theorem okK_mono {ps : List (Int × Int)} {k n : Nat} (h : okK ps n = true) (hk : k ≤ n) : okK ps k = true := by
  induction n with
  | zero => rw [show k = 0 by omega]; rfl
  | succ n ih =>
    by_cases hc : k = n + 1
    · rw [hc]; exact h
    · exact ih (by simp only [okK, Bool.and_eq_true] at h; exact h.1.1) (by omega)
theorem okK_bad {ps : List (Int × Int)} {k n : Nat} (h : okK ps (k + 1) = false) (hk : k < n) : okK ps n = false := by
  apply Bool.eq_false_iff.2
  intro ht
  rw [okK_mono ht (show k + 1 ≤ n by omega)] at h; cases h
/-- the points that are good -/
structure Good (ps : List (Int × Int)) (n : Nat) : Prop where
  x0 : ∀ i, i < n → 0 ≤ px ps i ∧ px ps i ≤ 112
  y0 : ∀ i, i < n → 0 ≤ py ps i ∧ py ps i ≤ 112
  ne : ∀ i j, i < n → j < n → i ≠ j → px ps i ≠ px ps j
theorem Good.of {ps : List (Int × Int)} {n : Nat} (h : okK ps n = true) : Good ps n := by
  have each : ∀ k, k < n → numB (px ps k) = true ∧ numB (py ps k) = true ∧ seenB ps k (px ps k) = false := by
    intro k hk
    have := okK_mono h (show k + 1 ≤ n by omega)
    simp only [okK, Bool.and_eq_true, Bool.not_eq_true'] at this
    exact ⟨this.1.2.1, this.1.2.2, this.2⟩
  refine ⟨fun i hi => (numB_iff _).1 (each i hi).1, fun i hi => (numB_iff _).1 (each i hi).2.1, fun i j hi hj hne he => ?_⟩
  rcases Nat.lt_or_gt_of_ne hne with hlt | hlt
  · have h1 := (each j hj).2.2
    rw [(seenB_iff ps j _).2 ⟨i, hlt, he⟩] at h1; cases h1
  · have h1 := (each i hi).2.2
    rw [(seenB_iff ps i _).2 ⟨j, hlt, he.symm⟩] at h1; cases h1
theorem Good.mod {ps : List (Int × Int)} {n : Nat} (h : Good ps n) {i j : Nat} (hi : i < n) (hj : j < n) (hne : i ≠ j) : (px ps i - px ps j) % 113 ≠ 0 := by
  have h1 := h.x0 i hi
  have h2 := h.x0 j hj
  have h3 := h.ne i j hi hj hne
  omega
theorem inv_mul {z : Int} (h0 : 0 ≤ z) (h1 : z ≤ 112) (h : z ≠ 0) : z * powI z 111 113 % 113 = 1 := by
  obtain ⟨Z, rfl⟩ := Int.eq_ofNat_of_zero_le h0
  have := (inv_is Z (by omega) (by omega)).1
  unfold powI
  simp only [Int.toNat_natCast]
  have e : ((Z * powN Z 111 113 % 113 : Nat) : Int) = 1 := by rw [this]; rfl
  simpa using e

/-! the program's way -/
def thrI (ps : List (Int × Int)) : Nat → List Int × List Int
  | 0 => ([], [1])
  | k + 1 =>
    let s := thrI ps k
    (plusL s.1 s.2 ((py ps k - atI s.1 (px ps k)) % 113 * powI (atI s.2 (px ps k)) 111 113 % 113), timesL s.2 [(0 - px ps k) % 113, 1])
theorem nums_plusL {zs : List Int} (h : Nums zs) (ys : List Int) (c : Int) : Nums (plusL zs ys c) := nums_trim (nums_addAtK (nums_pad h _) _ _ _ _)
theorem nums_timesL (zs ys : List Int) : Nums (timesL zs ys) := nums_trim (nums_mulK _ _ _ _)
theorem nums_mulL (zs ys : List Int) : Nums (mulL zs ys) := by rw [← times_is_mul]; exact nums_timesL _ _
theorem nums_nil : Nums [] := fun j => by simp
theorem nums_one {a : Int} (h0 : 0 ≤ a) (h1 : a ≤ 112) : Nums [a] := by
  intro j; cases j <;> simp <;> omega
theorem nums_two {a b : Int} (h0 : 0 ≤ a) (h1 : a ≤ 112) (h2 : 0 ≤ b) (h3 : b ≤ 112) : Nums [a, b] := by
  intro j
  match j with
  | 0 => simp; omega
  | 1 => simp; omega
  | j + 2 => simp
theorem plusL_len (zs ys : List Int) (c : Int) : (plusL zs ys c).length ≤ max zs.length ys.length := by
  unfold plusL
  have := trimL_len (addAtK (padL zs (max zs.length ys.length)) 0 ys c ys.length)
  rw [addAtK_length, padL_length _ _ (by omega)] at this
  exact this
theorem mulL_len (zs ys : List Int) : (mulL zs ys).length ≤ zs.length + ys.length - 1 := by
  unfold mulL
  split
  · simp
  · have := trimL_len (mulK (zs.length + ys.length - 1) zs ys zs.length)
    rw [mulK_length] at this; exact this
theorem addL_len (zs ys : List Int) : (addL zs ys).length ≤ max zs.length ys.length := by
  unfold addL
  have := trimL_len (addS (max zs.length ys.length) zs ys (max zs.length ys.length))
  rw [addS_length] at this; exact this
theorem sv_two (a b x : Int) : sv [a, b] x = b * x + a := by simp [sv]
theorem thrI_nums (ps : List (Int × Int)) (k : Nat) : Nums (thrI ps k).1 ∧ Nums (thrI ps k).2 := by
  induction k with
  | zero => exact ⟨nums_nil, nums_one (by omega) (by omega)⟩
  | succ k ih => exact ⟨nums_plusL ih.1 _ _, nums_timesL _ _⟩
theorem thrI_len (ps : List (Int × Int)) (k : Nat) : (thrI ps k).1.length ≤ k ∧ (thrI ps k).2.length ≤ k + 1 := by
  induction k with
  | zero => simp [thrI]
  | succ k ih =>
    have h1 := plusL_len (thrI ps k).1 (thrI ps k).2 ((py ps k - atI (thrI ps k).1 (px ps k)) % 113 * powI (atI (thrI ps k).2 (px ps k)) 111 113 % 113)
    have h2 := mulL_len (thrI ps k).2 [(0 - px ps k) % 113, 1]
    rw [← times_is_mul] at h2
    simp only [thrI, List.length_cons, List.length_nil] at *
    omega
/-- what is 0 at the points so far, and nowhere else among numbers -/
theorem thrI_zeros {ps : List (Int × Int)} {n : Nat} (_h : Good ps n) (k : Nat) (hk : k ≤ n) : (∀ i, i < k → sv (thrI ps k).2 (px ps i) % 113 = 0) ∧ (∀ x : Int, (∀ i, i < k → (x - px ps i) % 113 ≠ 0) → sv (thrI ps k).2 x % 113 ≠ 0) := by
  induction k with
  | zero => exact ⟨fun i hi => by omega, fun x _ => by simp [thrI, sv]⟩
  | succ k ih =>
    obtain ⟨h1, h2⟩ := ih (by omega)
    have step : ∀ x, ∃ t, sv (thrI ps (k + 1)).2 x = sv (thrI ps k).2 x * (x - px ps k) + 113 * t := by
      intro x
      obtain ⟨t, ht⟩ := sv_mulL (thrI ps k).2 [(0 - px ps k) % 113, 1] x
      simp only [thrI, times_is_mul]
      have e : (0 - px ps k) % 113 = -(px ps k) - 113 * ((0 - px ps k) / 113) := by omega
      rw [ht, sv_two, e]
      exact ⟨t - sv (thrI ps k).2 x * ((0 - px ps k) / 113), by grind⟩
    refine ⟨fun i hi => ?_, fun x hx => ?_⟩
    · obtain ⟨t, ht⟩ := step (px ps i)
      rw [ht]
      by_cases hc : i = k
      · rw [hc, Int.sub_self, Int.mul_zero]; omega
      · have h0 := h1 i (by omega)
        have e : sv (thrI ps k).2 (px ps i) * (px ps i - px ps k) = 113 * (sv (thrI ps k).2 (px ps i) / 113 * (px ps i - px ps k)) := by
          rw [← Int.mul_assoc, ← show sv (thrI ps k).2 (px ps i) = 113 * (sv (thrI ps k).2 (px ps i) / 113) by omega]
        omega
    · obtain ⟨t, ht⟩ := step x
      rw [ht]
      intro h0
      have h3 := prime_int (a := sv (thrI ps k).2 x) (b := x - px ps k) (by omega) (h2 x fun i hi => hx i (by omega))
      exact hx k (by omega) h3
theorem thrI_through {ps : List (Int × Int)} {n : Nat} (h : Good ps n) (k : Nat) (hk : k ≤ n) : ∀ i, i < k → sv (thrI ps k).1 (px ps i) % 113 = py ps i := by
  induction k with
  | zero => intro i hi; omega
  | succ k ih =>
    intro i hi
    obtain ⟨hz, hn⟩ := thrI_zeros h k (by omega)
    simp only [thrI]
    obtain ⟨t, ht⟩ := sv_plusL (thrI ps k).1 (thrI ps k).2 ((py ps k - atI (thrI ps k).1 (px ps k)) % 113 * powI (atI (thrI ps k).2 (px ps k)) 111 113 % 113) (px ps i)
    rw [ht]
    by_cases hc : i = k
    · subst hc
      have hy := h.y0 i (by omega)
      have hne := hn (px ps i) (fun j hj => h.mod (by omega) (by omega) (by omega))
      have hi1 := inv_mul (z := atI (thrI ps i).2 (px ps i)) (atI_lo _ _) (atI_hi _ _) (by rw [atI_sv]; exact hne)
      have hz1 : atI (thrI ps i).2 (px ps i) = sv (thrI ps i).2 (px ps i) % 113 := atI_sv _ _
      have hp1 : atI (thrI ps i).1 (px ps i) = sv (thrI ps i).1 (px ps i) % 113 := atI_sv _ _
      generalize atI (thrI ps i).2 (px ps i) = Z at *
      generalize atI (thrI ps i).1 (px ps i) = Q at *
      generalize powI Z 111 113 = V at *
      generalize sv (thrI ps i).2 (px ps i) = Sz at *
      generalize sv (thrI ps i).1 (px ps i) = Sp at *
      generalize py ps i = y at *
      -- (y - Q) V Z + Q = y
      have e1 : (y - Q) % 113 = y - Q - 113 * ((y - Q) / 113) := by omega
      have e2 : (y - Q) % 113 * V % 113 = (y - Q) % 113 * V - 113 * ((y - Q) % 113 * V / 113) := by omega
      have e3 : Sz = Z + 113 * (Sz / 113) := by omega
      have e4 : Sp = Q + 113 * (Sp / 113) := by omega
      have e5 : Z * V = 1 + 113 * (Z * V / 113) := by omega
      generalize (y - Q) % 113 * V / 113 = a at *
      generalize (y - Q) / 113 = b at *
      generalize Sz / 113 = c at *
      generalize Sp / 113 = d at *
      generalize Z * V / 113 = f at *
      have key : ∃ u, Sp + (y - Q) % 113 * V % 113 * Sz + 113 * t = y + 113 * u := by
        rw [e2, e1, e3, e4]
        exact ⟨d + t + (y - Q) * f - b * V * Z - a * Z + (y - Q) * V * c - 113 * b * V * c - 113 * a * c, by grind⟩
      obtain ⟨u, hu⟩ := key
      omega
    · have h0 := hz i (by omega)
      have h1 := ih (by omega) i (by omega)
      generalize (py ps k - atI (thrI ps k).1 (px ps k)) % 113 * powI (atI (thrI ps k).2 (px ps k)) 111 113 % 113 = C at *
      have e : C * sv (thrI ps k).2 (px ps i) = 113 * (C * (sv (thrI ps k).2 (px ps i) / 113)) := by
        have : sv (thrI ps k).2 (px ps i) = 113 * (sv (thrI ps k).2 (px ps i) / 113) := by omega
        generalize sv (thrI ps k).2 (px ps i) / 113 = q at *
        rw [this]; grind
      omega
theorem last_plus (zs ys : List Int) (c : Int) : 0 < (plusL zs ys c).length → (plusL zs ys c).getD ((plusL zs ys c).length - 1) 0 ≠ 0 := trimL_last _
theorem thrI_last (ps : List (Int × Int)) (k : Nat) : 0 < (thrI ps k).1.length → (thrI ps k).1.getD ((thrI ps k).1.length - 1) 0 ≠ 0 := by
  cases k with
  | zero => simp [thrI]
  | succ k => exact last_plus _ _ _

/-! the model's way -/
def lagK (ps : List (Int × Int)) (i : Nat) : Nat → List Int
  | 0 => [py ps i]
  | k + 1 => if k = i then lagK ps i k else
      mulL (lagK ps i k) (trimL [(0 - px ps k) % 113 * powI ((px ps i - px ps k) % 113) 111 113 % 113, powI ((px ps i - px ps k) % 113) 111 113])
def thrS (ps : List (Int × Int)) (n : Nat) : Nat → List Int
  | 0 => []
  | i + 1 => addL (thrS ps n i) (trimL (lagK ps i n))
theorem lagK_nums {ps : List (Int × Int)} {n : Nat} (h : Good ps n) {i : Nat} (hi : i < n) (k : Nat) : Nums (lagK ps i k) := by
  induction k with
  | zero => exact nums_one (h.y0 i hi).1 (h.y0 i hi).2
  | succ k ih =>
    rw [lagK]; split
    · exact ih
    · exact nums_mulL _ _
theorem lagK_len (ps : List (Int × Int)) (i k : Nat) : (lagK ps i k).length ≤ k + 1 ∧ (i < k → (lagK ps i k).length ≤ k) := by
  induction k with
  | zero => simp [lagK]
  | succ k ih =>
    rw [lagK]; split
    · rename_i hc; subst hc; exact ⟨by omega, fun _ => ih.1⟩
    · rename_i hc
      have h1 := mulL_len (lagK ps i k) (trimL [(0 - px ps k) % 113 * powI ((px ps i - px ps k) % 113) 111 113 % 113, powI ((px ps i - px ps k) % 113) 111 113])
      have h2 := trimL_len [(0 - px ps k) % 113 * powI ((px ps i - px ps k) % 113) 111 113 % 113, powI ((px ps i - px ps k) % 113) 111 113]
      simp only [List.length_cons, List.length_nil] at h2
      exact ⟨by omega, fun hik => by have := ih.2 (by omega); omega⟩
theorem lagK_at {ps : List (Int × Int)} {n : Nat} (h : Good ps n) {i : Nat} (hi : i < n) (k : Nat) (hk : k ≤ n) : sv (lagK ps i k) (px ps i) % 113 = py ps i ∧ ∀ j, j < k → j ≠ i → sv (lagK ps i k) (px ps j) % 113 = 0 := by
  induction k with
  | zero =>
    refine ⟨?_, fun j hj => by omega⟩
    have := h.y0 i hi
    simp only [lagK, sv, Int.zero_mul, Int.zero_add]; omega
  | succ k ih =>
    obtain ⟨h1, h2⟩ := ih (by omega)
    rw [lagK]; split
    · rename_i hc; exact ⟨h1, fun j hj hne => h2 j (by omega) hne⟩
    · rename_i hc
      have hd := h.mod hi (show k < n by omega) (fun e => hc e.symm)
      have hv := inv_mul (z := (px ps i - px ps k) % 113) (by omega) (by omega) hd
      have fac : ∀ x, ∃ t, sv (trimL [(0 - px ps k) % 113 * powI ((px ps i - px ps k) % 113) 111 113 % 113, powI ((px ps i - px ps k) % 113) 111 113]) x = powI ((px ps i - px ps k) % 113) 111 113 * (x - px ps k) + 113 * t := by
        intro x
        rw [sv_trim, sv_two]
        generalize powI ((px ps i - px ps k) % 113) 111 113 = V
        generalize px ps k = X
        have e1 : (0 - X) % 113 * V % 113 = (0 - X) % 113 * V - 113 * ((0 - X) % 113 * V / 113) := by omega
        have e2 : (0 - X) % 113 = -X - 113 * ((0 - X) / 113) := by omega
        rw [e1, e2]
        exact ⟨-((0 - X) / 113) * V - (-X - 113 * ((0 - X) / 113)) * V / 113, by grind⟩
      have mul : ∀ x, ∃ t, sv (mulL (lagK ps i k) (trimL [(0 - px ps k) % 113 * powI ((px ps i - px ps k) % 113) 111 113 % 113, powI ((px ps i - px ps k) % 113) 111 113])) x = sv (lagK ps i k) x * (powI ((px ps i - px ps k) % 113) 111 113 * (x - px ps k)) + 113 * t := by
        intro x
        obtain ⟨t, ht⟩ := sv_mulL (lagK ps i k) (trimL [(0 - px ps k) % 113 * powI ((px ps i - px ps k) % 113) 111 113 % 113, powI ((px ps i - px ps k) % 113) 111 113]) x
        obtain ⟨u, hu⟩ := fac x
        rw [ht, hu]
        exact ⟨t + sv (lagK ps i k) x * u, by grind⟩
      refine ⟨?_, fun j hj hne => ?_⟩
      · obtain ⟨t, ht⟩ := mul (px ps i)
        rw [ht]
        have hy := h.y0 i hi
        generalize powI ((px ps i - px ps k) % 113) 111 113 = V at *
        generalize px ps i - px ps k = D at *
        generalize sv (lagK ps i k) (px ps i) = L at *
        generalize py ps i = y at *
        have e1 : D % 113 * V = 1 + 113 * (D % 113 * V / 113) := by omega
        have e2 : D = D % 113 + 113 * (D / 113) := by omega
        have e3 : L = y + 113 * (L / 113) := by omega
        generalize D % 113 * V / 113 = a at *
        generalize D % 113 = D' at *
        generalize D / 113 = b at *
        generalize L / 113 = c at *
        have key : ∃ u, L * (V * D) + 113 * t = y + 113 * u := by
          rw [e2, e3]
          exact ⟨t + y * a + c * (1 + 113 * a) + (y + 113 * c) * V * b, by grind⟩
        obtain ⟨u, hu⟩ := key
        omega
      · obtain ⟨t, ht⟩ := mul (px ps j)
        rw [ht]
        by_cases hjk : j = k
        · rw [hjk, Int.sub_self, Int.mul_zero, Int.mul_zero]; omega
        · have h0 := h2 j (by omega) hne
          generalize powI ((px ps i - px ps k) % 113) 111 113 * (px ps j - px ps k) = C at *
          have e : sv (lagK ps i k) (px ps j) * C = 113 * (sv (lagK ps i k) (px ps j) / 113 * C) := by
            rw [← Int.mul_assoc, ← show sv (lagK ps i k) (px ps j) = 113 * (sv (lagK ps i k) (px ps j) / 113) by omega]
          omega
theorem nums_addL {zs ys : List Int} : Nums (addL zs ys) := by
  unfold addL
  refine nums_trim fun j => ?_
  rw [addS_get _ _ _ _ _ (Nat.le_refl _)]
  split <;> omega
theorem thrS_nums (ps : List (Int × Int)) (n i : Nat) : Nums (thrS ps n i) := by
  cases i with
  | zero => exact nums_nil
  | succ i => exact nums_addL
theorem thrS_len (ps : List (Int × Int)) (n i : Nat) (hi : i ≤ n) : (thrS ps n i).length ≤ n := by
  induction i with
  | zero => simp [thrS]
  | succ i ih =>
    have h1 := addL_len (thrS ps n i) (trimL (lagK ps i n))
    have h2 := trimL_len (lagK ps i n)
    have h3 := (lagK_len ps i n).2 (by omega)
    have h4 := ih (by omega)
    rw [thrS]; omega
theorem thrS_at {ps : List (Int × Int)} {n : Nat} (h : Good ps n) (i : Nat) (hi : i ≤ n) : (∀ j, j < i → sv (thrS ps n i) (px ps j) % 113 = py ps j) ∧ (∀ j, i ≤ j → j < n → sv (thrS ps n i) (px ps j) % 113 = 0) := by
  induction i with
  | zero => exact ⟨fun j hj => by omega, fun j _ _ => rfl⟩
  | succ i ih =>
    obtain ⟨h1, h2⟩ := ih (by omega)
    obtain ⟨l1, l2⟩ := lagK_at h (show i < n by omega) n (Nat.le_refl _)
    refine ⟨fun j hj => ?_, fun j hij hjn => ?_⟩
    · obtain ⟨t, ht⟩ := sv_addL (thrS ps n i) (trimL (lagK ps i n)) (px ps j)
      rw [thrS, ht, sv_trim]
      by_cases hc : j = i
      · have a := h2 i (Nat.le_refl _) (by omega)
        rw [hc]; omega
      · have a := h1 j (by omega)
        have b := l2 j (by omega) hc
        omega
    · obtain ⟨t, ht⟩ := sv_addL (thrS ps n i) (trimL (lagK ps i n)) (px ps j)
      have a := h2 j (by omega) hjn
      have b := l2 j hjn (by omega)
      rw [thrS, ht, sv_trim]; omega
theorem thrS_last (ps : List (Int × Int)) (n i : Nat) : 0 < (thrS ps n i).length → (thrS ps n i).getD ((thrS ps n i).length - 1) 0 ≠ 0 := by
  cases i with
  | zero => simp [thrS]
  | succ i => exact trimL_last _
/-- both ways come to one -/
theorem through_one {ps : List (Int × Int)} (h : Good ps ps.length) : (thrI ps ps.length).1 = thrS ps ps.length ps.length := by
  have xl : (ps.map (·.1)).length = ps.length := by simp
  have xi : ∀ i, i < ps.length → (ps.map (·.1))[i]? = some (px ps i) := by intro i hi; simp [px, hi]
  refine last_ext (thrI_last _ _) (thrS_last _ _ _) (one_through (ps.map (·.1)) _ _ (thrI_nums _ _).1 (thrS_nums _ _ _) (by rw [xl]; exact (thrI_len _ _).1) (by rw [xl]; exact thrS_len _ _ _ (Nat.le_refl _)) ?_ ?_)
  · rw [List.pairwise_iff_getElem]
    intro i j hi hj hij
    rw [xl] at hi hj
    have a := xi i hi
    have b := xi j hj
    rw [List.getElem?_eq_getElem (by rw [xl]; exact hi)] at a
    rw [List.getElem?_eq_getElem (by rw [xl]; exact hj)] at b
    injection a with a
    injection b with b
    rw [a, b]
    exact h.mod hi hj (by omega)
  · intro x hx
    obtain ⟨i, hi, rfl⟩ := List.getElem_of_mem hx
    rw [xl] at hi
    have a := xi i hi
    rw [List.getElem?_eq_getElem (by rw [xl]; exact hi)] at a
    injection a with a
    rw [a, atI_sv, atI_sv, thrI_through h _ (Nat.le_refl _) i hi, (thrS_at h _ (Nat.le_refl _)).1 i hi]
end Go.Proofs.Ytipdflbnnmghdaa

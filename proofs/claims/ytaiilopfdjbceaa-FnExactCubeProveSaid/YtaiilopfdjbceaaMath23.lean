/- Chapter 17's mathematics: cubes, what is told in a round, what is left when variables are replaced. -/
import Derived.Test.YtaiilopfdjbceaaSumI
import Derived.Test.YtaiilopfdjbceaaMath2d
namespace Go.Proofs.Ytaiilopfdjbceaa
def cubeB (zs : List Int) : Bool := (decide (zs.length = 2) || (decide (zs.length = 4) || decide (zs.length = 8))) && numsB zs
theorem cubeB_iff {zs : List Int} : cubeB zs = true ↔ (zs.length = 2 ∨ zs.length = 4 ∨ zs.length = 8) ∧ numsB zs = true := by
  simp [cubeB, Bool.and_eq_true, Bool.or_eq_true]
theorem cubeB_nums {zs : List Int} (h : cubeB zs = true) : Nums zs := nums_of_B (cubeB_iff.1 h).2
/-- how many bits an index has -/
def bitsK (n : Nat) : Nat := if n ≤ 1 then 0 else if n ≤ 2 then 1 else if n ≤ 4 then 2 else 3
theorem cube_bits {zs : List Int} (h : cubeB zs = true) : zs.length = 2 ^ bitsK zs.length ∧ 1 ≤ bitsK zs.length ∧ bitsK zs.length ≤ 3 := by
  rcases (cubeB_iff.1 h).1 with e | e | e <;> rw [e] <;> decide
/-- the sums of the even and of the odd places -/
def evK (zs : List Int) : Nat → Int
  | 0 => 0
  | k + 1 => (evK zs k + zs.getD (2 * k) 0) % 113
def odK (zs : List Int) : Nat → Int
  | 0 => 0
  | k + 1 => (odK zs k + zs.getD (2 * k + 1) 0) % 113
theorem evK_bd (zs : List Int) (k : Nat) : 0 ≤ evK zs k ∧ evK zs k ≤ 112 := by cases k <;> simp only [evK] <;> omega
theorem odK_bd (zs : List Int) (k : Nat) : 0 ≤ odK zs k ∧ odK zs k ≤ 112 := by cases k <;> simp only [odK] <;> omega
theorem ev_od (zs : List Int) (k : Nat) : (evK zs k + odK zs k) % 113 = sumK zs (2 * k) := by
  induction k with
  | zero => rfl
  | succ k ih =>
    rw [show 2 * (k + 1) = (2 * k + 1) + 1 by omega, sumK, sumK, ← ih, evK, odK]; omega
/-- what is told of a cube -/
def endsP (zs : List Int) : Int × Int := (evK zs (zs.length / 2), odK zs (zs.length / 2))
theorem ends_sum {zs : List Int} (h : zs.length % 2 = 0) : ((endsP zs).1 + (endsP zs).2) % 113 = sumI zs := by
  unfold endsP sumI; rw [ev_od, show 2 * (zs.length / 2) = zs.length by omega]
/-- the first variable replaced -/
def foldV (a b x : Int) : Int := (a + x * ((b - a) % 113)) % 113
def foldL (zs : List Int) (x : Int) (k : Nat) : List Int := (List.range k).map fun i => foldV (zs.getD (2 * i) 0) (zs.getD (2 * i + 1) 0) x
theorem foldL_length (zs : List Int) (x : Int) (k : Nat) : (foldL zs x k).length = k := by simp [foldL]
theorem foldL_succ (zs : List Int) (x : Int) (k : Nat) : foldL zs x (k + 1) = foldL zs x k ++ [foldV (zs.getD (2 * k) 0) (zs.getD (2 * k + 1) 0) x] := by simp [foldL, List.range_succ]
theorem foldV_bd (a b x : Int) : 0 ≤ foldV a b x ∧ foldV a b x ≤ 112 := by unfold foldV; omega
theorem foldV_is (a b x : Int) : (a + (b - a) % 113 * x % 113) % 113 = foldV a b x := by unfold foldV; rw [Int.mul_comm x]; omega
theorem foldL_nums (zs : List Int) (x : Int) (k : Nat) : Nums (foldL zs x k) := by
  intro j
  by_cases h : j < k
  · rw [show (foldL zs x k).getD j 0 = foldV (zs.getD (2 * j) 0) (zs.getD (2 * j + 1) 0) x by simp [foldL, h]]; exact foldV_bd _ _ _
  · rw [getD_out _ _ (by rw [foldL_length]; omega)]; omega
def foldsL (zs : List Int) : List Int → List Int
  | [] => zs
  | x :: t => foldsL (foldL zs x (zs.length / 2)) t
theorem foldsL_snoc (zs : List Int) (xs : List Int) (x : Int) : foldsL zs (xs ++ [x]) = foldL (foldsL zs xs) x ((foldsL zs xs).length / 2) := by
  induction xs generalizing zs with
  | nil => rfl
  | cons y t ih => exact ih _
theorem foldsL_take (zs xs : List Int) (k : Nat) (h : k < xs.length) : foldsL zs (xs.take (k + 1)) = foldL (foldsL zs (xs.take k)) (xs.getD k 0) ((foldsL zs (xs.take k)).length / 2) := by
  rw [take_snocD _ _ h, foldsL_snoc]
theorem foldsL_nums {zs : List Int} (h : Nums zs) (xs : List Int) : Nums (foldsL zs xs) := by
  induction xs generalizing zs with
  | nil => exact h
  | cons y t ih => exact ih (foldL_nums _ _ _)
theorem foldsL_length (zs xs : List Int) (m : Nat) (h : zs.length = 2 ^ m) (hx : xs.length ≤ m) : (foldsL zs xs).length = 2 ^ (m - xs.length) := by
  induction xs generalizing zs m with
  | nil => simpa [foldsL] using h
  | cons y t ih =>
    simp only [List.length_cons] at hx ⊢
    obtain ⟨q, rfl⟩ : ∃ q, m = q + 1 := ⟨m - 1, by omega⟩
    have hl : (foldL zs y (zs.length / 2)).length = 2 ^ q := by rw [foldL_length, h, Nat.pow_succ]; omega
    rw [foldsL, ih _ q hl (by omega), show q + 1 - (t.length + 1) = q - t.length by omega]
def cubeAtI (zs xs : List Int) : Int := (foldsL zs xs).getD 0 0
/-- the points of all rounds -/
def provF (zs xs : List Int) (k : Nat) : Int × Int := endsP (foldsL zs (xs.take k))
def fitB (zs xs : List Int) : Bool := cubeB zs && (decide (xs.length = bitsK zs.length) && numsB xs)
theorem fitB_iff {zs xs : List Int} : fitB zs xs = true ↔ cubeB zs = true ∧ xs.length = bitsK zs.length ∧ numsB xs = true := by simp [fitB, Bool.and_eq_true]
/-- due behind k rounds, and whether all were right so far -/
def dueK (c : Int) (ps : Nat → Int × Int) (xs : List Int) : Nat → Int
  | 0 => c
  | k + 1 => foldV (ps k).1 (ps k).2 (xs.getD k 0)
def toldK (c : Int) (ps : Nat → Int × Int) (xs : List Int) : Nat → Bool
  | 0 => true
  | k + 1 => toldK c ps xs k && decide (((ps k).1 + (ps k).2) % 113 = dueK c ps xs k)
def accB (zs : List Int) (c : Int) (ps : Nat → Int × Int) (xs : List Int) : Bool := toldK c ps xs xs.length && decide (dueK c ps xs xs.length = cubeAtI zs xs)
theorem toldK_bad {c : Int} {ps : Nat → Int × Int} {xs : List Int} {k n : Nat} (h : toldK c ps xs (k + 1) = false) (hk : k < n) : toldK c ps xs n = false := by
  induction n with
  | zero => omega
  | succ n ih =>
    by_cases e : k = n
    · subst e; exact h
    · rw [toldK, ih (by omega)]; rfl
theorem toldK_succ {c : Int} {ps : Nat → Int × Int} {xs : List Int} {k : Nat} (h : toldK c ps xs k = true) (h2 : ((ps k).1 + (ps k).2) % 113 = dueK c ps xs k) : toldK c ps xs (k + 1) = true := by rw [toldK, h]; simpa using h2
theorem toldK_no {c : Int} {ps : Nat → Int × Int} {xs : List Int} {k : Nat} (h2 : ((ps k).1 + (ps k).2) % 113 ≠ dueK c ps xs k) : toldK c ps xs (k + 1) = false := by rw [toldK]; simp [h2]
theorem accB_no {zs : List Int} {c : Int} {ps : Nat → Int × Int} {xs : List Int} (h : toldK c ps xs xs.length = false) : accB zs c ps xs = false := by simp [accB, h]
end Go.Proofs.Ytaiilopfdjbceaa

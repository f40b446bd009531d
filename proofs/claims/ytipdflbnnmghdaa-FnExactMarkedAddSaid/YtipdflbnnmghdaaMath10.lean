/- Chapter 8: circuits: which are valid; what is told gate by gate. -/
import Derived.Test.YtipdflbnnmghdaaCircuit
import Derived.Test.YtipdflbnnmghdaaWalk3a
namespace Go.Proofs.Ytipdflbnnmghdaa
open Go.RowKit
set_option maxRecDepth 100000

/-- gate k -/
def gt (gs : List (Int × Int × Int)) (k : Nat) : Int × Int × Int := gs.getD k (0, 0, 0)
/-- a gate is valid at its place -/
def gateB (g : Int × Int × Int) (t m : Int) : Bool :=
  if g.1 = 0 then inB g.2.1 0 (m - 1) && decide (g.2.2 = 0)
  else if g.1 = 1 then numB g.2.1 && decide (g.2.2 = 0)
  else if g.1 = 2 ∨ g.1 = 3 ∨ g.1 = 4 then inB g.2.1 0 (t - 1) && inB g.2.2 0 (t - 1)
  else false
/-- the first k are -/
def gatesK (gs : List (Int × Int × Int)) (m : Int) : Nat → Bool
  | 0 => true
  | k + 1 => gatesK gs m k && gateB (gt gs k) k m
/-- the first k outputs are indexes below n -/
def outsK (os : List Int) (n : Int) : Nat → Bool
  | 0 => true
  | k + 1 => outsK os n k && inB (os.getD k 0) 0 (n - 1)
def circB (d : Int × List (Int × Int × Int) × List Int) : Bool :=
  (inB d.1 1 6 && (inB d.2.1.length 1 16 && inB d.2.2.length 1 16)) && (gatesK d.2.1 d.1 d.2.1.length && outsK d.2.2 d.2.1.length d.2.2.length)
theorem gatesK_mono {gs : List (Int × Int × Int)} {m : Int} {k n : Nat} (h : gatesK gs m n = true) (hk : k ≤ n) : gatesK gs m k = true := by
  induction n with
  | zero => rw [show k = 0 by omega]; rfl
  | succ n ih =>
    by_cases hc : k = n + 1
    · rw [hc]; exact h
    · exact ih (by simp only [gatesK, Bool.and_eq_true] at h; exact h.1) (by omega)
theorem gatesK_bad {gs : List (Int × Int × Int)} {m : Int} {k n : Nat} (h : gatesK gs m (k + 1) = false) (hk : k < n) : gatesK gs m n = false := by
  apply Bool.eq_false_iff.2
  intro ht
  rw [gatesK_mono ht (show k + 1 ≤ n by omega)] at h; cases h
theorem gatesK_at {gs : List (Int × Int × Int)} {m : Int} {k n : Nat} (h : gatesK gs m n = true) (hk : k < n) : gateB (gt gs k) k m = true := by
  have := gatesK_mono h (show k + 1 ≤ n by omega)
  simp only [gatesK, Bool.and_eq_true] at this
  exact this.2
theorem outsK_mono {os : List Int} {m : Int} {k n : Nat} (h : outsK os m n = true) (hk : k ≤ n) : outsK os m k = true := by
  induction n with
  | zero => rw [show k = 0 by omega]; rfl
  | succ n ih =>
    by_cases hc : k = n + 1
    · rw [hc]; exact h
    · exact ih (by simp only [outsK, Bool.and_eq_true] at h; exact h.1) (by omega)
theorem outsK_bad {os : List Int} {m : Int} {k n : Nat} (h : outsK os m (k + 1) = false) (hk : k < n) : outsK os m n = false := by
  apply Bool.eq_false_iff.2
  intro ht
  rw [outsK_mono ht (show k + 1 ≤ n by omega)] at h; cases h
theorem outsK_at {os : List Int} {m : Int} {k n : Nat} (h : outsK os m n = true) (hk : k < n) : 0 ≤ os.getD k 0 ∧ os.getD k 0 ≤ m - 1 := by
  have := outsK_mono h (show k + 1 ≤ n by omega)
  simp only [outsK, Bool.and_eq_true] at this
  exact inB_iff.1 this.2
theorem circB_iff {d : Int × List (Int × Int × Int) × List Int} (h : circB d = true) : (1 ≤ d.1 ∧ d.1 ≤ 6) ∧ (1 ≤ d.2.1.length ∧ d.2.1.length ≤ 16) ∧ (1 ≤ d.2.2.length ∧ d.2.2.length ≤ 16) ∧ gatesK d.2.1 d.1 d.2.1.length = true ∧ outsK d.2.2 d.2.1.length d.2.2.length = true := by
  unfold circB at h
  simp only [Bool.and_eq_true, inB_iff] at h
  obtain ⟨⟨h1, h2, h3⟩, h4, h5⟩ := h
  exact ⟨h1, by omega, by omega, h4, h5⟩
/-- the kind of a valid gate -/
theorem gateB_kind {g : Int × Int × Int} {t m : Int} (h : gateB g t m = true) : (g.1 = 0 ∧ 0 ≤ g.2.1 ∧ g.2.1 ≤ m - 1 ∧ g.2.2 = 0) ∨ (g.1 = 1 ∧ 0 ≤ g.2.1 ∧ g.2.1 ≤ 112 ∧ g.2.2 = 0) ∨ ((g.1 = 2 ∨ g.1 = 3 ∨ g.1 = 4) ∧ 0 ≤ g.2.1 ∧ g.2.1 ≤ t - 1 ∧ 0 ≤ g.2.2 ∧ g.2.2 ≤ t - 1) := by
  unfold gateB at h
  split at h
  · simp only [Bool.and_eq_true, inB_iff, decide_eq_true_eq] at h; exact .inl ⟨by assumption, h.1.1, h.1.2, h.2⟩
  · split at h
    · simp only [Bool.and_eq_true, numB_iff, decide_eq_true_eq] at h; exact .inr (.inl ⟨by assumption, h.1.1, h.1.2, h.2⟩)
    · split at h
      · simp only [Bool.and_eq_true, inB_iff] at h; exact .inr (.inr ⟨by assumption, h.1.1, h.1.2, h.2.1, h.2.2⟩)
      · cases h

/-- what is told gate by gate, from what was told before -/
def tellK (f : Int × Int × Int → List Int → Int) (gs : List (Int × Int × Int)) : Nat → List Int
  | 0 => []
  | k + 1 => tellK f gs k ++ [f (gt gs k) (tellK f gs k)]
theorem tellK_length (f : Int × Int × Int → List Int → Int) (gs : List (Int × Int × Int)) (k : Nat) : (tellK f gs k).length = k := by
  induction k with
  | zero => rfl
  | succ k ih => simp [tellK, ih]
theorem tellK_old (f : Int × Int × Int → List Int → Int) (gs : List (Int × Int × Int)) {k n j : Nat} (hk : k ≤ n) (hj : j < k) : (tellK f gs n).getD j 0 = (tellK f gs k).getD j 0 := by
  induction n with
  | zero => rw [show k = 0 by omega]
  | succ n ih =>
    by_cases hc : k = n + 1
    · rw [hc]
    · have := ih (by omega)
      have hl := tellK_length f gs n
      rw [← this, tellK]
      simp only [List.getD_eq_getElem?_getD]
      rw [List.getElem?_append_left (by omega)]
/-- the value of a gate on inputs -/
def valG (ins : List Int) (g : Int × Int × Int) (v : List Int) : Int :=
  if g.1 = 0 then ins.getD g.2.1.toNat 0
  else if g.1 = 1 then g.2.1
  else if g.1 = 2 then (v.getD g.2.1.toNat 0 + v.getD g.2.2.toNat 0) % 113
  else if g.1 = 3 then (v.getD g.2.1.toNat 0 - v.getD g.2.2.toNat 0) % 113
  else v.getD g.2.1.toNat 0 * v.getD g.2.2.toNat 0 % 113
def depG (g : Int × Int × Int) (v : List Int) : Int :=
  if g.1 = 0 ∨ g.1 = 1 then 0
  else if g.1 = 4 then max (v.getD g.2.1.toNat 0) (v.getD g.2.2.toNat 0) + 1
  else max (v.getD g.2.1.toNat 0) (v.getD g.2.2.toNat 0)
/-- the degree as it is, and as it is told, cut at 1000 -/
def degG (g : Int × Int × Int) (v : List Int) : Int :=
  if g.1 = 0 then 1
  else if g.1 = 1 then 0
  else if g.1 = 4 then v.getD g.2.1.toNat 0 + v.getD g.2.2.toNat 0
  else max (v.getD g.2.1.toNat 0) (v.getD g.2.2.toNat 0)
def dcutG (g : Int × Int × Int) (v : List Int) : Int :=
  if g.1 = 0 then 1
  else if g.1 = 1 then 0
  else if g.1 = 4 then min 1000 (v.getD g.2.1.toNat 0 + v.getD g.2.2.toNat 0)
  else max (v.getD g.2.1.toNat 0) (v.getD g.2.2.toNat 0)
/-- the greatest at the first k outputs -/
def mostK (os v : List Int) : Nat → Int
  | 0 => 0
  | k + 1 => max (mostK os v k) (v.getD (os.getD k 0).toNat 0)
/-- what there is of the first k outputs -/
def outK (os v : List Int) : Nat → List Int
  | 0 => []
  | k + 1 => outK os v k ++ [v.getD (os.getD k 0).toNat 0]
theorem outK_length (os v : List Int) (k : Nat) : (outK os v k).length = k := by
  induction k with
  | zero => rfl
  | succ k ih => simp [outK, ih]
theorem tell_get (f : Int × Int × Int → List Int → Int) (gs : List (Int × Int × Int)) {k n j : Nat} (hj : j < k) : (tellK f gs k ++ List.replicate (n - k) 0).getD j 0 = (tellK f gs k).getD j 0 := by
  have := tellK_length f gs k
  simp only [List.getD_eq_getElem?_getD]
  rw [List.getElem?_append_left (by omega)]
theorem tell_step (f : Int × Int × Int → List Int → Int) (gs : List (Int × Int × Int)) {k n : Nat} (hk : k < n) : (tellK f gs k ++ List.replicate (n - k) 0).set k (f (gt gs k) (tellK f gs k)) = tellK f gs (k + 1) ++ List.replicate (n - (k + 1)) 0 := by
  have hl := tellK_length f gs k
  rw [List.set_append_right _ _ (by omega), hl, Nat.sub_self, show n - k = (n - (k + 1)) + 1 by omega, List.replicate_succ, List.set_cons_zero, tellK, List.append_assoc, List.singleton_append]
/-- values are numbers -/
theorem val_bd {ins : List Int} {gs : List (Int × Int × Int)} {m : Int} {n : Nat} (hg : gatesK gs m n = true) (hi : ∀ j, 0 ≤ ins.getD j 0 ∧ ins.getD j 0 ≤ 112) (k : Nat) (hk : k ≤ n) : ∀ j, 0 ≤ (tellK (valG ins) gs k).getD j 0 ∧ (tellK (valG ins) gs k).getD j 0 ≤ 112 := by
  induction k with
  | zero => intro j; simp [tellK]
  | succ k ih =>
    intro j
    have ih := ih (by omega)
    have hl := tellK_length (valG ins) gs k
    by_cases hj : j < k
    · rw [tellK]
      simp only [List.getD_eq_getElem?_getD]
      rw [List.getElem?_append_left (by omega)]
      exact ih j
    · by_cases hj2 : j = k
      · have e : (tellK (valG ins) gs (k + 1)).getD j 0 = valG ins (gt gs k) (tellK (valG ins) gs k) := by
          subst hj2
          rw [tellK]
          simp only [List.getD_eq_getElem?_getD]
          rw [List.getElem?_append_right (by omega), hl, Nat.sub_self]; rfl
        rw [e]
        have hk2 := gateB_kind (gatesK_at hg (show k < n by omega))
        unfold valG
        split
        · exact hi _
        · split
          · rcases hk2 with h | h | h
            · omega
            · omega
            · omega
          · split
            · omega
            · split
              · omega
              · have h1 := ih (gt gs k).2.1.toNat
                have h2 := ih (gt gs k).2.2.toNat
                have h3 : 0 ≤ (tellK (valG ins) gs k).getD (gt gs k).2.1.toNat 0 * (tellK (valG ins) gs k).getD (gt gs k).2.2.toNat 0 := Int.mul_nonneg h1.1 h2.1
                omega
      · have : (tellK (valG ins) gs (k + 1)).getD j 0 = 0 := by
          simp only [List.getD_eq_getElem?_getD]
          rw [List.getElem?_eq_none (by rw [tellK_length]; omega)]; rfl
        rw [this]; omega
end Go.Proofs.Ytipdflbnnmghdaa

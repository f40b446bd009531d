/- Chapter 13: no number of the tape is told twice. -/
import Derived.Test.YtlajhgnlllelfaaWalk13a
namespace Go.Proofs.Ytlajhgnlllelfaa
open Go.RowKit

/-- the latest numbers of two cells differ -/
theorem lastS_ne (d : List AcD) (k : Nat) (c c' : Int) (hc : 0 ≤ c ∧ c ≤ 7) (hc' : 0 ≤ c' ∧ c' ≤ 7) (hne : c ≠ c') : lastS d c k ≠ lastS d c' k := by
  induction k with
  | zero => unfold lastS; exact hne
  | succ k ih =>
    have h1 := lastS_bd d c k hc
    have h2 := lastS_bd d c' k hc'
    have key : ∀ x, 0 ≤ x ∧ x ≤ 7 → lastS d x k < 8 + (k : Int) := fun x hx => by
      clear ih h1 h2
      induction k with
      | zero => show x < 8 + ((0 : Nat) : Int); omega
      | succ k ih =>
        show (if acC d k = x then 8 + (k : Int) else lastS d x k) < _
        split
        · omega
        · have := ih; omega
    have e1 := key c hc
    have e2 := key c' hc'
    show (if acC d k = c then 8 + (k : Int) else lastS d c k) ≠ (if acC d k = c' then 8 + (k : Int) else lastS d c' k)
    split <;> split <;> omega
theorem lastS_lt (d : List AcD) (k : Nat) (c : Int) (hc : 0 ≤ c ∧ c ≤ 7) : lastS d c k < 8 + (k : Int) := by
  induction k with
  | zero => show c < 8 + ((0 : Nat) : Int); omega
  | succ k ih =>
    show (if acC d k = c then 8 + (k : Int) else lastS d c k) < _
    split <;> omega
/-- what an access told ahead is the latest of no cell any more -/
theorem lastS_old (d : List AcD) (i : Nat) (hi : 0 ≤ acC d i ∧ acC d i ≤ 7) (k : Nat) (hk : i < k) (c : Int) (hc : 0 ≤ c ∧ c ≤ 7) : lastS d c k ≠ lastS d (acC d i) i := by
  have hlt := lastS_lt d i (acC d i) hi
  induction k with
  | zero => omega
  | succ k ih =>
    show (if acC d k = c then 8 + (k : Int) else lastS d c k) ≠ _
    by_cases hik : i < k
    · have := ih hik
      split <;> omega
    · obtain rfl : k = i := by omega
      split
      · omega
      · rename_i hne
        exact lastS_ne d k c _ hc hi (fun e => hne e.symm)
theorem slots_ne (d : List AcD) (h : slotB d = true) (i j : Nat) (hij : i < j) (hj : j < d.length) : (slotsL d d.length).getD i 0 ≠ (slotsL d d.length).getD j 0 := by
  unfold slotB at h
  rw [Bool.and_eq_true] at h
  have cell : ∀ m, m < d.length → 0 ≤ acC d m ∧ acC d m ≤ 7 := fun m hm => by
    have := cellsK_mono h.2 (show m + 1 ≤ d.length by omega)
    rw [cellsK, Bool.and_eq_true, inB_iff] at this
    exact this.2
  have e : ∀ m, m < d.length → (slotsL d d.length).getD m 0 = lastS d (acC d m) m := fun m hm => by simp [slotsL, hm]
  rw [e i (by omega), e j hj]
  exact fun e => lastS_old d i (cell i (by omega)) j hij (acC d j) (cell j hj) e.symm
theorem slots_diff {d : List AcD} {i j : Nat} (hij : i < j) (hj : j < (R_HiddenSlots_0 d).length) : (R_HiddenSlots_0 d).getD i 0 ≠ (R_HiddenSlots_0 d).getD j 0 := by
  unfold R_HiddenSlots_0 at hj ⊢
  cases h : slotB d
  · rw [h] at hj; exact absurd hj (by simp)
  · rw [if_pos rfl]
    rw [h, if_pos rfl, slotsL_length] at hj
    exact slots_ne d h i j hij hj
theorem slots_len (d : List AcD) : (R_HiddenSlots_0 d).length = 0 ∨ (R_HiddenSlots_0 d).length = d.length := by
  unfold R_HiddenSlots_0
  split
  · exact .inr (slotsL_length d _)
  · exact .inl rfl
end Go.Proofs.Ytlajhgnlllelfaa

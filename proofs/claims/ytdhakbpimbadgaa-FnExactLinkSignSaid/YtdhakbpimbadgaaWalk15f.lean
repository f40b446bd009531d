/- Chapter 15: EitherTape of both sides. Made by tools/gen15/f.py. -/
import Derived.Test.YtdhakbpimbadgaaWalk15e
import Derived.Deep.RegionWith
namespace Go.Proofs.Ytdhakbpimbadgaa
open Go.RowKit
set_option maxRecDepth 100000

theorem etape_no {ks : List Int} {l : List Pf} {i s : Int} (h : etapeB ks l i s = false) : Hid (false = R_EitherTape_1 ks l i s ∧ R_EitherTape_0 ks l i s = []) := Lib.hid ⟨h.symm, by unfold R_EitherTape_0; rw [h]; rfl⟩
theorem etape_yes {ks : List Int} {l : List Pf} {i s : Int} (h : etapeB ks l i s = true) : Hid (true = R_EitherTape_1 ks l i s ∧ R_EitherTape_0 ks l i s = tapeL l i.toNat s ks.length) := Lib.hid ⟨h.symm, by unfold R_EitherTape_0; rw [if_pos h]⟩
theorem ret_vb5 {g : Value} {a b : Bool} (h : a = b) : Ending.returned (.tuple #[g, .bool a]) = .returned (.tuple #[g, .bool b]) := by rw [h]
theorem OwIntS.nil5 (w : World) (lo hi : Nat) : OwIntS w lo hi (.slice none 0 0) [] := ⟨by simp, none, 0, 0, rfl, by simp [cI], Nat.le_refl _, .inl rfl⟩
theorem keysB_len {ks : List Int} (h : keysB ks = true) : 1 ≤ ks.length ∧ ks.length ≤ 6 := by
  simp only [keysB, Bool.and_eq_true, inB_iff] at h; omega
theorem ownB_at {ks : List Int} {i s : Int} (h : ownB ks i s = true) : (0 ≤ i ∧ i < ks.length) ∧ (0 ≤ s ∧ s ≤ 112) ∧ powI 4 s 227 = ks.getD i.toNat 0 := by
  simp only [ownB, Bool.and_eq_true, inB_iff, decide_eq_true_eq] at h
  exact ⟨by omega, (numB_iff s).1 h.2.1, h.2.2⟩
def rawL (l : List Pf) (n : Nat) : List Int := (List.range n).flatMap fun j => [(l.getD j (0, 0, 0)).2.1, (l.getD j (0, 0, 0)).2.2]
theorem rawL_succ (l : List Pf) (n : Nat) : rawL l (n + 1) = rawL l n ++ [(l.getD n (0, 0, 0)).2.1, (l.getD n (0, 0, 0)).2.2] := by simp [rawL, List.range_succ]
theorem rawL_length (l : List Pf) (n : Nat) : (rawL l n).length = 2 * n := by
  induction n with
  | zero => rfl
  | succ n ih => rw [rawL_succ, List.length_append, ih]; simp; omega
theorem raw_same (l : List Pf) (q : Nat) (s : Int) {n : Nat} (h : n ≤ q) : rawL l n = tapeL l q s n := by
  induction n with
  | zero => rfl
  | succ n ih => rw [rawL_succ, tapeL_succ, ih (by omega)]; unfold tapeJ; rw [if_neg (by omega)]
theorem raw_set (l : List Pf) (q : Nat) (s : Int) {n : Nat} (h : q < n) : ((rawL l n).set (2 * q) (((l.getD q (0, 0, 0)).2.2 - (l.getD q (0, 0, 0)).2.1 * s) % 113)).set (2 * q + 1) 0 = tapeL l q s n := by
  induction n with
  | zero => omega
  | succ n ih =>
    have hl := rawL_length l n
    rw [rawL_succ, tapeL_succ]
    by_cases e : q = n
    · subst e
      rw [List.set_append_right _ _ (by omega), hl, Nat.sub_self, List.set_cons_zero, List.set_append_right _ _ (by omega), hl, show 2 * q + 1 - 2 * q = 0 + 1 by omega, List.set_cons_succ, List.set_cons_zero, raw_same l q s (Nat.le_refl _)]
      unfold tapeJ; rw [if_pos rfl]
      congr 2; omega
    · rw [List.set_append_left _ _ (by omega), List.set_append_left _ _ (by rw [List.length_set]; omega), ih (by omega)]
      unfold tapeJ; rw [if_neg (by omega)]

end Go.Proofs.Ytdhakbpimbadgaa

/- Chapter 16: LinkTape of both sides. Made by tools/gen15/k.py. -/
import Derived.Test.YtdhakbpimbadgaaWalk16j
namespace Go.Proofs.Ytdhakbpimbadgaa
open Go.RowKit
set_option maxRecDepth 100000

theorem ltp_no {ks msg : List Int} {tag : Int} {l : List Tw} {i s : Int} (h : ltapeB ks msg tag l i s = false) : Hid (false = R_LinkTape_1 ks msg tag l i s ∧ R_LinkTape_0 ks msg tag l i s = []) := Lib.hid ⟨h.symm, by unfold R_LinkTape_0; rw [h]; rfl⟩
theorem ltp_yes {ks msg : List Int} {tag : Int} {l : List Tw} {i s : Int} (h : ltapeB ks msg tag l i s = true) : Hid (true = R_LinkTape_1 ks msg tag l i s ∧ R_LinkTape_0 ks msg tag l i s = ltapeL l i.toNat s ks.length) := Lib.hid ⟨h.symm, by unfold R_LinkTape_0; rw [if_pos h]⟩
theorem lgood_parts {ks msg : List Int} {tag : Int} {l : List Tw} (h : lgoodB ks msg tag l = true) : keysB ks = true ∧ l.length = ks.length ∧ lgoodsK ks tag l ks.length = true := by
  simp only [lgoodB, Bool.and_eq_true, decide_eq_true_eq] at h
  exact ⟨h.1, h.2.2.2.1, h.2.2.2.2.1⟩
def rawT (l : List Tw) (n : Nat) : List Int := (List.range n).flatMap fun j => [(l.getD j (0, 0, 0, 0)).2.2.1, (l.getD j (0, 0, 0, 0)).2.2.2]
theorem rawT_succ (l : List Tw) (n : Nat) : rawT l (n + 1) = rawT l n ++ [(l.getD n (0, 0, 0, 0)).2.2.1, (l.getD n (0, 0, 0, 0)).2.2.2] := by simp [rawT, List.range_succ]
theorem rawT_length (l : List Tw) (n : Nat) : (rawT l n).length = 2 * n := by
  induction n with
  | zero => rfl
  | succ n ih => rw [rawT_succ, List.length_append, ih]; simp; omega
theorem rawT_same (l : List Tw) (q : Nat) (s : Int) {n : Nat} (h : n ≤ q) : rawT l n = ltapeL l q s n := by
  induction n with
  | zero => rfl
  | succ n ih => rw [rawT_succ, ltapeL_succ, ih (by omega)]; unfold ltapeJ; rw [if_neg (by omega)]
theorem rawT_set (l : List Tw) (q : Nat) (s : Int) {n : Nat} (h : q < n) : ((rawT l n).set (2 * q) (((l.getD q (0, 0, 0, 0)).2.2.2 - (l.getD q (0, 0, 0, 0)).2.2.1 * s) % 113)).set (2 * q + 1) 0 = ltapeL l q s n := by
  induction n with
  | zero => omega
  | succ n ih =>
    have hl := rawT_length l n
    rw [rawT_succ, ltapeL_succ]
    by_cases e : q = n
    · subst e
      rw [List.set_append_right _ _ (by omega), hl, Nat.sub_self, List.set_cons_zero, List.set_append_right _ _ (by omega), hl, show 2 * q + 1 - 2 * q = 0 + 1 by omega, List.set_cons_succ, List.set_cons_zero, rawT_same l q s (Nat.le_refl _)]
      unfold ltapeJ; rw [if_pos rfl]
      congr 2; omega
    · rw [List.set_append_left _ _ (by omega), List.set_append_left _ _ (by rw [List.length_set]; omega), ih (by omega)]
      unfold ltapeJ; rw [if_neg (by omega)]
set_option maxHeartbeats 1000000 in
theorem i_tagOf (s : Int) (w : World) (s0 : 0 ≤ s) (s1 : s ≤ 112) :
    Calls Try.prog 59 #[.int .i64 s] w fun e w' => e = .returned (.int .i64 (powI 9 s 227)) ∧ w = w' := by
  obtain ⟨u, hu⟩ : ∃ u, Hid (powI 9 s 227 = u) := ⟨_, Lib.hid rfl⟩
  have HP : Hid (Calls Try.prog 87 #[.int .i64 9, .int .i64 s] w fun e w' => e = .returned (.int .i64 u) ∧ w = w') := Lib.hid (by rw [← hu.out]; exact i_el_power 9 s _ (by omega) (by omega) s0 s1)
  rw [hu.out]
  go_enter Try.func59, Try.ntmps59
  go_wp2_with fail
  refine HP.out.mono ?_
  rintro e w' ⟨rfl, rfl⟩
  go_wp2
  go_ret
  exact ⟨rfl, rfl⟩

end Go.Proofs.Ytdhakbpimbadgaa

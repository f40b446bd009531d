/- Chapter 19: the target, both sides. Made by tools/gen19/a.py. -/
import Derived.Test.YtlagkinamnjnhaaFace2b
import Derived.Test.YtlagkinamnjnhaaWalk2m
import Derived.Test.YtlagkinamnjnhaaIn
namespace Go.Proofs.Ytlagkinamnjnhaa
open Go.RowKit
set_option maxRecDepth 100000

/-- the product of x - 1, .., x - k -/
def tgtL : Nat → List Int
  | 0 => [1]
  | k + 1 => mulL (tgtL k) [112 - (k : Int), 1]
theorem tgtL_nums (k : Nat) : Nums (tgtL k) := by
  cases k with
  | zero => exact nums_one (by omega) (by omega)
  | succ k => exact nums_mulL _ _
theorem tgtL_len (k : Nat) : (tgtL k).length ≤ k + 1 := by
  induction k with
  | zero => simp [tgtL]
  | succ k ih => have := mulL_len (tgtL k) [112 - (k : Int), 1]; simp only [List.length_cons, List.length_nil] at this; rw [tgtL]; omega
def R_QuotientTarget_1 (n : Int) : Bool := inB n 1 16
def R_QuotientTarget_0 (n : Int) : List Int := if inB n 1 16 = true then tgtL n.toNat else []
theorem OwIntS.rdq {w : World} {lo hi n c : Nat} {A : Option Addr} {d : List Int} (h : OwIntS w lo hi (.slice A n c) d) : Rd w hi 1 A n (cI d) := by
  obtain ⟨_, A1, n1, c1, e, r⟩ := h
  injection e with e1 e2 e3; subst e1; subst e2; subst e3
  exact r.rd
set_option maxHeartbeats 2000000 in
theorem s_l19Target (n : Nat) (w : World) (hn : n ≤ 16) :
    Calls Try.prog 43 #[.int .i64 n] w fun e w' => ∃ v, e = .returned v ∧ OwIntS w' w.heap.size w'.heap.size v (tgtL n) ∧ Below w.heap.size w w' := by
  obtain ⟨W0, hW0⟩ : ∃ W, Hid (w.alloc (.cells #[.int .i64 1] 3) = W) := ⟨_, Lib.hid rfl⟩
  have HB0 : Hid (Below w.heap.size w W0) := Lib.hid (by rw [← hW0.out]; exact (Below.refl _ _).alloc (Nat.le_refl _) _)
  have HP0 : Hid (OwIntS W0 w.heap.size W0.heap.size (.slice (some ⟨w.heap.size, 0, none⟩) 1 1) (tgtL 0)) := Lib.hid (by
    rw [← hW0.out]
    have := lit_own w [1] 1 rfl (by omega)
    simp only [World.size_alloc] at this ⊢
    exact this)
  go_enter Try.func43, Try.ntmps43
  go_wp2
  rw [hW0.out]
  clear hW0
  go_loopw [3, 4] (fun p i wr => ∃ k : Nat, k ≤ n ∧ i = .int .i64 ((k : Int) + 1) ∧ Hid (OwIntS wr w.heap.size wr.heap.size p (tgtL k)) ∧ Hid (Below w.heap.size w wr)) (fun _ i _ => n + 1 - (intOf i).toNat)
  case atStart => exact ⟨0, Nat.zero_le _, rfl, HP0, HB0⟩
  case round =>
    clear HP0 HB0
    obtain ⟨k, hk, rfl, HP, HB⟩ := hrel
    obtain ⟨Ap, np, cp, rfl, hnp, _, _⟩ := HP.out.open
    have np1 : np ≤ 100000 := by have := tgtL_len k; omega
    clear hnp
    by_cases hlt : k < n
    · have iw : IntKind.i64.wrap (112 - (k : Int)) = 112 - (k : Int) := IntWalk.i64_in _ (by omega)
      obtain ⟨W1, hW1⟩ : ∃ W, Hid (wr.alloc (.cells #[.int .i64 (112 - (k : Int)), .int .i64 1] 3) = W) := ⟨_, Lib.hid rfl⟩
      have HB1 : Hid (Below wr.heap.size wr W1) := Lib.hid (by rw [← hW1.out]; exact (Below.refl _ _).alloc (Nat.le_refl _) _)
      have HL : Hid (Rd W1 W1.heap.size 1 (some ⟨wr.heap.size, 0, none⟩) 2 (cI [112 - (k : Int), 1])) := Lib.hid (by
        rw [← hW1.out]
        have := lit_own wr [112 - (k : Int), 1] 2 rfl (by omega)
        simp only [World.size_alloc] at this ⊢
        exact (this.widen (Nat.le_refl _) (Nat.le_refl _)).rdq)
      have HPR : Hid (Rd W1 W1.heap.size 1 Ap np (cI (tgtL k))) := Lib.hid ((HP.out.rdq.below HB1.out).more HB1.out.size)
      have HN2 : Hid (Nums [112 - (k : Int), 1]) := Lib.hid (nums_two (by omega) (by omega) (by omega) (by omega))
      have HZ := HB.out.size
      have HSB := fun W => Lib.hid (s_l1Sub 0 ((k : Int) + 1) W (by omega) (by omega) (by omega) (by omega))
      have hsb : (0 - ((k : Int) + 1)) % 113 = 112 - (k : Int) := by omega
      rw [hsb] at HSB
      clear hsb
      go_wp2_with fail
      refine (HSB _).out.mono ?_
      rintro e w' ⟨rfl, rfl⟩
      go_wp2_with fail
      rw [hW1.out]
      clear hW1 iw
      refine (s_l2Mul _ _ _ _ _ _ _ _ W1 HPR.out HL.out (tgtL_nums k) HN2.out np1 (by omega)).mono ?_
      rintro e w2 ⟨v, rfl, ho, hb⟩
      have HP2 : Hid (OwIntS w2 w.heap.size w2.heap.size v (tgtL (k + 1))) := Lib.hid (by have h0 := ho.widen (show w.heap.size ≤ W1.heap.size by have := HB1.out.size; omega) (Nat.le_refl _); exact h0)
      have HB2 : Hid (Below w.heap.size w w2) := Lib.hid ((HB.out.trans (HB1.out.mono HZ)).trans (hb.mono (by have := HB1.out.size; omega)))
      clear ho hb HP HB HL HPR HN2 HB1
      go_wp2
      go_roundw
      case rel => exact ⟨k + 1, by omega, by go_num, HP2, HB2⟩
      case measure => simp [intOf] <;> omega
    · have HF : Hid (OwIntS wr w.heap.size wr.heap.size (.slice Ap np cp) (tgtL n)) := Lib.hid (by have := HP.out; rw [show k = n by omega] at this; exact this)
      clear HP
      go_wp2
      go_ret
      exact ⟨_, rfl, HF.out, HB.out⟩
set_option maxHeartbeats 2000000 in
theorem i_targetOf (n : Nat) (w : World) (hn : n ≤ 16) :
    Calls Try.prog 44 #[.int .i64 n] w fun e w' => ∃ v, e = .returned v ∧ OwIntS w' w.heap.size w'.heap.size v (tgtL n) ∧ Below w.heap.size w w' := by
  obtain ⟨W0, hW0⟩ : ∃ W, Hid (w.alloc (.cells #[.int .i64 1] 3) = W) := ⟨_, Lib.hid rfl⟩
  have HB0 : Hid (Below w.heap.size w W0) := Lib.hid (by rw [← hW0.out]; exact (Below.refl _ _).alloc (Nat.le_refl _) _)
  have HP0 : Hid (OwIntS W0 w.heap.size W0.heap.size (.slice (some ⟨w.heap.size, 0, none⟩) 1 1) (tgtL 0)) := Lib.hid (by
    rw [← hW0.out]
    have := lit_own w [1] 1 rfl (by omega)
    simp only [World.size_alloc] at this ⊢
    exact this)
  go_enter Try.func44, Try.ntmps44
  go_wp2
  rw [hW0.out]
  clear hW0
  go_loopw [3, 7] (fun p i wr => ∃ k : Nat, k ≤ n ∧ i = .int .i64 k ∧ Hid (OwIntS wr w.heap.size wr.heap.size p (tgtL k)) ∧ Hid (Below w.heap.size w wr)) (fun _ i _ => n - (intOf i).toNat)
  case atStart => exact ⟨0, Nat.zero_le _, rfl, HP0, HB0⟩
  case round =>
    clear HP0 HB0
    obtain ⟨k, hk, rfl, HP, HB⟩ := hrel
    obtain ⟨Ap, np, cp, rfl, hnp, _, _⟩ := HP.out.open
    have np1 : np ≤ 100000 := by have := tgtL_len k; omega
    clear hnp
    by_cases hlt : k < n
    · have iw : IntKind.i64.wrap (112 - (k : Int)) = 112 - (k : Int) := IntWalk.i64_in _ (by omega)
      obtain ⟨W1, hW1⟩ : ∃ W, Hid (wr.alloc (.cells #[.int .i64 (112 - (k : Int)), .int .i64 1] 3) = W) := ⟨_, Lib.hid rfl⟩
      have HB1 : Hid (Below wr.heap.size wr W1) := Lib.hid (by rw [← hW1.out]; exact (Below.refl _ _).alloc (Nat.le_refl _) _)
      have HL : Hid (Rd W1 W1.heap.size 1 (some ⟨wr.heap.size, 0, none⟩) 2 (cI [112 - (k : Int), 1])) := Lib.hid (by
        rw [← hW1.out]
        have := lit_own wr [112 - (k : Int), 1] 2 rfl (by omega)
        simp only [World.size_alloc] at this ⊢
        exact (this.widen (Nat.le_refl _) (Nat.le_refl _)).rdq)
      have HPR : Hid (Rd W1 W1.heap.size 1 Ap np (cI (tgtL k))) := Lib.hid ((HP.out.rdq.below HB1.out).more HB1.out.size)
      have HN2 : Hid (Nums [112 - (k : Int), 1]) := Lib.hid (nums_two (by omega) (by omega) (by omega) (by omega))
      have HZ := HB.out.size
      go_wp2_with fail
      rw [hW1.out]
      clear hW1 iw
      refine (i_polynomial_times _ _ _ _ _ _ _ _ W1 HPR.out HL.out (tgtL_nums k) HN2.out np1 (by omega)).mono ?_
      rintro e w2 ⟨v, rfl, ho, hb⟩
      have HP2 : Hid (OwIntS w2 w.heap.size w2.heap.size v (tgtL (k + 1))) := Lib.hid (by have h0 := ho.widen (show w.heap.size ≤ W1.heap.size by have := HB1.out.size; omega) (Nat.le_refl _); rw [times_is_mul] at h0; exact h0)
      have HB2 : Hid (Below w.heap.size w w2) := Lib.hid ((HB.out.trans (HB1.out.mono HZ)).trans (hb.mono (by have := HB1.out.size; omega)))
      clear ho hb HP HB HL HPR HN2 HB1
      go_wp2
      go_roundw
      case rel => exact ⟨k + 1, by omega, by go_num, HP2, HB2⟩
      case measure => simp [intOf] <;> omega
    · have HF : Hid (OwIntS wr w.heap.size wr.heap.size (.slice Ap np cp) (tgtL n)) := Lib.hid (by have := HP.out; rw [show k = n by omega] at this; exact this)
      clear HP
      go_wp2
      go_ret
      exact ⟨_, rfl, HF.out, HB.out⟩
set_option maxHeartbeats 1000000 in
theorem X_s_QuotientTarget (n : Int) (w : World) :
    Calls Try.prog 22 #[.int .i64 n] w fun e w' => ∃ g, e = .returned (.tuple #[g, .bool (R_QuotientTarget_1 n)]) ∧ OwIntS w' w.heap.size w'.heap.size g (R_QuotientTarget_0 n) ∧ Below w.heap.size w w' := by
  by_cases h1 : 1 ≤ n ∧ n ≤ 16
  · obtain ⟨m, rfl⟩ : ∃ m : Nat, n = m := ⟨n.toNat, by omega⟩
    have HF : Hid (R_QuotientTarget_1 m = true ∧ R_QuotientTarget_0 m = tgtL m) := Lib.hid ⟨inB_t h1, by unfold R_QuotientTarget_0; rw [if_pos (inB_t h1)]; rfl⟩
    have hm : m ≤ 16 := by omega
    have h2 := h1.1
    have h3 := h1.2
    have hb := inB_t h1
    go_enter Try.func22, Try.ntmps22
    go_wp2_with fail
    refine (s_l6In _ _ _ _).mono ?_
    rintro e w' ⟨rfl, rfl⟩
    rw [hb]
    go_wp2_with fail
    refine (s_l19Target m _ hm).mono ?_
    rintro e w2 ⟨v, rfl, ho, hb2⟩
    have HO := Lib.hid ho
    have HB := Lib.hid hb2
    clear ho hb2
    go_wp2
    go_ret2
    exact ⟨_, ret_vb HF.out.1.symm, by rw [HF.out.2]; exact HO.out, HB.out⟩
  · have HF : Hid (R_QuotientTarget_1 n = false ∧ R_QuotientTarget_0 n = []) := Lib.hid ⟨inB_f h1, by unfold R_QuotientTarget_0; rw [inB_f h1]; rfl⟩
    have hb := inB_f h1
    go_enter Try.func22, Try.ntmps22
    go_wp2_with fail
    refine (s_l6In _ _ _ _).mono ?_
    rintro e w' ⟨rfl, rfl⟩
    rw [hb]
    go_wp2
    go_ret2
    refine ⟨_, ret_vb HF.out.1.symm, ?_, Below.refl _ _⟩
    rw [HF.out.2]; exact OwIntS.nil_ _ _ _
set_option maxHeartbeats 1000000 in
theorem X_i_QuotientTarget (n : Int) (w : World) :
    Calls Try.prog 23 #[.int .i64 n] w fun e w' => ∃ g, e = .returned (.tuple #[g, .bool (R_QuotientTarget_1 n)]) ∧ OwIntS w' w.heap.size w'.heap.size g (R_QuotientTarget_0 n) ∧ Below w.heap.size w w' := by
  by_cases h1 : 1 ≤ n ∧ n ≤ 16
  · obtain ⟨m, rfl⟩ : ∃ m : Nat, n = m := ⟨n.toNat, by omega⟩
    have HF : Hid (R_QuotientTarget_1 m = true ∧ R_QuotientTarget_0 m = tgtL m) := Lib.hid ⟨inB_t h1, by unfold R_QuotientTarget_0; rw [if_pos (inB_t h1)]; rfl⟩
    have hm : m ≤ 16 := by omega
    have h2 := h1.1
    have h3 := h1.2
    clear h1
    have h4 : ¬ (m : Int) < 1 := by omega
    have h5 : ¬ (16 : Int) < (m : Int) := by omega
    go_enter Try.func23, Try.ntmps23
    go_wp2_with fail
    refine (i_targetOf m _ hm).mono ?_
    rintro e w2 ⟨v, rfl, ho, hb2⟩
    have HO := Lib.hid ho
    have HB := Lib.hid hb2
    clear ho hb2
    go_wp2
    go_ret2
    exact ⟨_, ret_vb HF.out.1.symm, by rw [HF.out.2]; exact HO.out, HB.out⟩
  · have HF : Hid (R_QuotientTarget_1 n = false ∧ R_QuotientTarget_0 n = []) := Lib.hid ⟨inB_f h1, by unfold R_QuotientTarget_0; rw [inB_f h1]; rfl⟩
    by_cases h2 : n < 1
    · clear h1
      go_enter Try.func23, Try.ntmps23
      go_wp2
      go_ret2
      refine ⟨_, ret_vb HF.out.1.symm, ?_, Below.refl _ _⟩
      rw [HF.out.2]; exact OwIntS.nil_ _ _ _
    · have h3 : 16 < n := by omega
      clear h1
      go_enter Try.func23, Try.ntmps23
      go_wp2
      go_ret2
      refine ⟨_, ret_vb HF.out.1.symm, ?_, Below.refl _ _⟩
      rw [HF.out.2]; exact OwIntS.nil_ _ _ _
end Go.Proofs.Ytlagkinamnjnhaa

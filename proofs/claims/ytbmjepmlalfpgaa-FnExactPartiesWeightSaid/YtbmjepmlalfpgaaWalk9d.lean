/- Chapter 9: PartiesWeight as the program has it. -/
import Derived.Test.YtbmjepmlalfpgaaWalk9c
namespace Go.Proofs.Ytbmjepmlalfpgaa
open Go.RowKit
set_option maxRecDepth 100000

set_option maxHeartbeats 400000 in
theorem i_weightOf (i b : Int) (w : World) (h : wgOk i b = true) :
    Calls Try.prog 90 #[.int .i64 i, .int .i64 b] w fun e w' => e = .returned (.int .i64 (wgK i (2 * b + 1).toNat)) ∧ Below w.heap.size w w' := by
  obtain ⟨hat, hok⟩ := wg_is h
  have HAT := Lib.hid hat
  have HOK := Lib.hid hok
  clear hat hok
  simp only [wgOk, Bool.and_eq_true, inB_iff] at h
  obtain ⟨⟨b0, b1⟩, i0, i1⟩ := h
  obtain ⟨N, hN⟩ : ∃ N : Nat, (N : Int) = 2 * b + 1 := ⟨(2 * b + 1).toNat, by omega⟩
  have hNN : (2 * b + 1).toNat = N := by omega
  rw [hNN] at HAT HOK ⊢
  obtain ⟨m, rfl⟩ : ∃ n : Nat, i = (n : Int) + 1 := ⟨(i - 1).toNat, by omega⟩
  have hm : m < N := by omega
  have iw : IntKind.i64.wrap (2 * b) = 2 * b := IntWalk.i64_in _ (by omega)
  have iw2 : IntKind.i64.wrap (2 * b + 1) = 2 * b + 1 := IntWalk.i64_in _ (by omega)
  clear hNN
  have n7 : N ≤ 7 := by omega
  have HL0 := Lib.hid (fun W => i_listed_wgt N (by omega) (fun k => ((k : Int) + 1, 0)) W (fun W k _ hk => i_weight1 k W (by omega)))
  go_enter Try.func90, Try.ntmps90
  go_wp2_with fail
  rw [← hN]
  refine (HL0.out _).mono ?_
  rintro e w1 ⟨g, rfl, ho, hb⟩
  obtain ⟨_, A, n, c, rfl, o⟩ := ho
  have hn : n = N := by have := o.plen; rw [uptoF_length] at this; exact this.symm
  subst hn
  obtain ⟨gb, cs, rfl, gl, gh, _, _⟩ := o.lt (by omega)
  have HB1 := Lib.hid hb
  have HO1 := Lib.hid o
  have hc : w1.cell? ⟨gb, m * 2 + 1, none⟩ = some (.int .i64 0) := o.cellAt (by rw [cP_get2 _ _ (by rw [uptoF_length]; exact hm)]; simp [upto_get _ hm])
  have hf := o.free (by omega) (m * 2 + 1)
  have HO2 := Lib.hid (o.set (m * 2 + 1) (.int .i64 1))
  rw [cP_setY2 _ m ((m : Int) + 1) 0 1 (upto_get _ hm)] at HO2
  have HE : Hid ((uptoF (fun k => ((k : Int) + 1, (0 : Int))) n).set m ((m : Int) + 1, 1) = onesP ((m : Int) + 1) n) := Lib.hid (by unfold onesP; rw [show ((m : Int) + 1 - 1).toNat = m by omega])
  rw [HE.out] at HO2
  have HB2 : Hid (Below w.heap.size w (w1.setCell ⟨gb, m * 2 + 1, none⟩ (.int .i64 1))) := Lib.hid (hb.setCell (p := ⟨gb, m * 2 + 1, none⟩) gl _)
  have j0 : (m : Int) < (n : Int) := by omega
  have HL : Hid ((onesP ((m : Int) + 1) n).length = n) := Lib.hid (by unfold onesP; rw [List.length_set, uptoF_length])
  obtain ⟨W, hW⟩ : ∃ W, Hid (w1.setCell ⟨gb, m * 2 + 1, none⟩ (.int .i64 1) = W) := ⟨_, Lib.hid rfl⟩
  rw [hW.out] at HO2 HB2
  have HRD : Hid (Rd W W.heap.size 2 (some ⟨gb, 0, none⟩) n (cP (onesP ((m : Int) + 1) n))) := Lib.hid (HO2.out.rd.more (by rw [← hW.out, World.size_setCell]; exact Nat.le_refl _))
  have HGD := Lib.hid (Good.of HOK.out)
  clear o hb gl gh HO1 HE
  go_wp2_with fail
  rw [hW.out]
  clear hW hc hf
  refine (i_through (some ⟨gb, 0, none⟩) n c (onesP ((m : Int) + 1) n) W HRD.out (by omega) HGD.out).mono ?_
  rintro e w3 ⟨v, rfl, ho3, hb3⟩
  have HO3 := Lib.hid ho3
  obtain ⟨A3, n3, c3, rfl, hn3, _, _⟩ := HO3.out.open
  have hl3 := (thrI_len (onesP ((m : Int) + 1) n) n).1
  have HNU := Lib.hid (thrI_nums (onesP ((m : Int) + 1) n) n).1
  have HB3 : Hid (Below w.heap.size w w3) := Lib.hid (HB2.out.trans (hb3.mono HB2.out.size))
  have q3 : n3 ≤ 1048576 := by omega
  clear ho3 hb3 hn3 hl3 HRD HO2
  go_wp2_with fail
  refine (i_polynomial_at A3 n3 c3 _ 0 _ HO3.out.rdw HNU.out q3 (by omega) (by omega)).mono ?_
  rintro e w4 ⟨rfl, hs⟩
  have HB4 : Hid (Below w.heap.size w w4) := Lib.hid (HB3.out.trans (hs.below _))
  clear hs
  go_wp2
  go_ret
  exact ⟨ret_i HAT.out, HB4.out⟩

set_option maxHeartbeats 1000000 in
theorem X_i_PartiesWeight (i b : Int) (w : World) :
    Calls Try.prog 48 #[.int .i64 i, .int .i64 b] w fun e w' => e = .returned (.tuple #[.int .i64 (wgV i b), .bool (wgOk i b)]) ∧ Below w.heap.size w w' := by
  by_cases hb : 0 ≤ b ∧ b ≤ 3
  rotate_left
  · have HF : Hid (wgOk i b = false) := Lib.hid (by simp [wgOk, inB_f hb])
    by_cases hb1 : b < 0
    all_goals
      have hb2 : b < 0 ∨ 3 < b := by omega
      go_enter Try.func48, Try.ntmps48
      go_wp2
      go_ret2
      exact ⟨ret_tib (by rw [wgV, HF.out]; rfl) HF.out.symm, Below.refl _ _⟩
  obtain ⟨b0, b1⟩ := hb
  have iw : IntKind.i64.wrap (2 * b) = 2 * b := IntWalk.i64_in _ (by omega)
  have iw2 : IntKind.i64.wrap (2 * b + 1) = 2 * b + 1 := IntWalk.i64_in _ (by omega)
  by_cases hi : 1 ≤ i ∧ i ≤ 2 * b + 1
  rotate_left
  · have HF : Hid (wgOk i b = false) := Lib.hid (by simp [wgOk, inB_f hi])
    by_cases hi1 : i < 1
    all_goals
      have hi2 : i < 1 ∨ 2 * b + 1 < i := by omega
      go_enter Try.func48, Try.ntmps48
      go_wp2
      go_ret2
      exact ⟨ret_tib (by rw [wgV, HF.out]; rfl) HF.out.symm, Below.refl _ _⟩
  obtain ⟨i0, i1⟩ := hi
  have HF : Hid (wgOk i b = true) := Lib.hid (by simp [wgOk, inB_t ⟨b0, b1⟩, inB_t ⟨i0, i1⟩])
  go_enter Try.func48, Try.ntmps48
  go_wp2_with fail
  refine (i_weightOf i b _ HF.out).mono ?_
  rintro e w' ⟨rfl, hb⟩
  have HB := Lib.hid hb
  clear hb
  go_wp2
  go_ret2
  exact ⟨ret_tib (by rw [wgV, HF.out]; rfl) HF.out.symm, HB.out⟩
end Go.Proofs.Ytbmjepmlalfpgaa

/- What the plain laws draw from bytes: what SharesOf is asked, whole. -/
import Derived.Test.YtjpjmlcmaombnaaDraw7
namespace Go.Proofs.Ytjpjmlcmaombnaa
open Go.RowKit
set_option maxRecDepth 100000

theorem three {j : Nat} (h : (j : Int) < 3) : j = 0 ∨ j = 1 ∨ j = 2 := by omega

set_option maxHeartbeats 2000000 in
theorem d_l91SharesOf (g hi p : Nat) (A : Option Addr) (n c : Nat) (bs : List Int) (w : World) (h : Rdr w g hi p A n c bs) (hp : p < 800000) :
    Calls Try.prog 95 #[.pointer (some ⟨g, 0, none⟩)] w fun e w' => ∃ s N v d q, e = .returned (.tuple #[.int .i64 s, .int .i64 N, v]) ∧ (-1 ≤ s ∧ s ≤ 1000000007) ∧ (-1 ≤ N ∧ N ≤ 8) ∧ OwIntS w' w.heap.size w'.heap.size v d ∧ d.length ≤ 6 ∧ q ≤ p + 50 ∧ Rdr w' g hi q A n c bs ∧ Kept g (g + 1) w w' := by
  have HG := Lib.hid h.lt
  have H := Lib.hid h
  clear h
  go_enter Try.func95, Try.ntmps95
  go_wp2_with fail
  refine (d_pick _ _ _ _ _ _ _ _ _ H.out (by omega) (by omega) (by omega)).mono ?_
  rintro e w1 ⟨z0, rfl, z00, z01, h1, k1⟩
  have H1 := Lib.hid h1
  have K1 := Lib.hid k1
  clear h1 k1 H
  have iw : IntKind.i64.wrap (1 + z0) = 1 + z0 := IntWalk.i64_in _ (by omega)
  go_wp2_with fail
  refine (d_pick _ _ _ _ _ _ _ _ _ H1.out (by omega) (by omega) (by omega)).mono ?_
  rintro e w2 ⟨m, rfl, m0, m1, h2, k2⟩
  have H2 := Lib.hid h2
  have K2 := Lib.hid (K1.out.trans k2)
  clear h2 k2 H1 K1
  obtain ⟨M, rfl⟩ := Int.eq_ofNat_of_zero_le m0
  go_wp2_with fail
  refine (d_l91Nums _ _ _ M _ _ _ _ _ H2.out (by omega) (by omega)).mono ?_
  rintro e w3 ⟨v, d, q3, rfl, ho, hd, hq3, h3, k3⟩
  have H3 := Lib.hid h3
  have K3 := Lib.hid (K2.out.trans k3)
  have O3 := Lib.hid (ho.widen K2.out.size (Nat.le_refl _))
  clear h3 k3 H2 K2 ho
  go_wp2_with fail
  refine (d_pick _ _ _ _ _ _ _ _ _ H3.out (by omega) (by omega) (by omega)).mono ?_
  rintro e w4 ⟨z1, rfl, z10, z11, h4, k4⟩
  have H4 := Lib.hid h4
  have K4 := Lib.hid (K3.out.trans k4)
  have O4 := Lib.hid ((O3.out.kept k4 (Nat.le_refl _) (.inl HG.out)).widen (Nat.le_refl _) k4.size)
  clear h4 k4 H3 K3 O3
  by_cases hz : z1 = 0
  · have hb : (z1 == 0) = true := by simp [hz]
    clear hz
    go_wp2_with fail
    refine (d_pick _ _ _ _ _ _ _ _ _ (H4.out.alloc _) (by omega) (by omega) (by omega)).mono ?_
    rintro e w5 ⟨z2, rfl, z20, z21, h5, k5⟩
    obtain ⟨j, rfl⟩ := Int.eq_ofNat_of_zero_le z20
    have hc := lit4 _ k5 H4.out.lt
    have H5 := Lib.hid h5
    have k45 := (kept_alloc g (g + 1) w4 _).trans k5
    have K5 := Lib.hid (K4.out.trans k45)
    have O5 := Lib.hid ((O4.out.kept k45 (Nat.le_refl _) (.inl HG.out)).widen (Nat.le_refl _) k45.size)
    clear h5 k5 k45 H4 K4 O4
    rcases three z21 with rfl | rfl | rfl
    all_goals
      have hc0 := hc 0 _ rfl
      have hc1 := hc 1 _ rfl
      have hc2 := hc 2 _ rfl
      clear hc
      go_wp2_with fail
      refine (d_l91Num _ _ _ _ _ _ _ _ H5.out (by omega)).mono ?_
      rintro e w6 ⟨s, q6, rfl, hs, hq6, h6, k6⟩
      have H6 := Lib.hid h6
      have K6 := Lib.hid (K5.out.trans k6)
      have O6 := Lib.hid ((O5.out.kept k6 (Nat.le_refl _) (.inl HG.out)).widen (Nat.le_refl _) k6.size)
      clear h6 k6 H5 K5 O5
      go_wp2
      go_ret3
      exact ⟨_, _, _, _, _, rfl, hs, by omega, O6.out, by omega, by omega, H6.out, K6.out⟩
  · have hb : (z1 == 0) = false := by rw [beq_eq_false_iff_ne]; exact hz
    clear hz
    go_wp2_with fail
    refine (d_l91Num _ _ _ _ _ _ _ _ H4.out (by omega)).mono ?_
    rintro e w6 ⟨s, q6, rfl, hs, hq6, h6, k6⟩
    have H6 := Lib.hid h6
    have K6 := Lib.hid (K4.out.trans k6)
    have O6 := Lib.hid ((O4.out.kept k6 (Nat.le_refl _) (.inl HG.out)).widen (Nat.le_refl _) k6.size)
    clear h6 k6 H4 K4 O4
    go_wp2
    go_ret3
    exact ⟨_, _, _, _, _, rfl, hs, by omega, O6.out, by omega, by omega, H6.out, K6.out⟩
end Go.Proofs.Ytjpjmlcmaombnaa

/- Chapter 2: what is a polynomial, as exported; its value at a number. -/
import Derived.Test.YtpaaimmakkfbkaaWalk2a
namespace Go.Proofs.Ytpaaimmakkfbkaa
open Go.RowKit

set_option maxHeartbeats 400000 in
theorem s_l2At (A : Option Addr) (n c : Nat) (zs : List Int) (x : Int) (w : World) (h : Rd w w.heap.size 1 A n (cI zs)) (hN : Nums zs) (hn : n ≤ 1048576) (x0 : 0 ≤ x) (x1 : x ≤ 112) :
    Calls Try.prog 30 #[.slice A n c, .int .i64 x] w fun e w' => e = .returned (.int .i64 (atI zs x)) ∧ w = w' := by
  have hlen : Hid (zs.length = n) := Lib.hid h.len
  have H := Lib.hid h
  have HN := Lib.hid hN
  clear h hN
  go_enter Try.func30, Try.ntmps30
  go_wp2
  go_loop [5, 6] (fun y i => ∃ (k Y : Int), -1 ≤ k ∧ k < n ∧ 0 ≤ Y ∧ Y ≤ 112 ∧ i = .int .i64 k ∧ y = .int .i64 Y ∧ Hid (Y = atI (zs.drop (k + 1).toNat) x)) (fun _ i => (intOf i + 1).toNat)
  case atStart => exact ⟨(n : Int) - 1, 0, by omega, by omega, by omega, by omega, rfl, rfl, Lib.hid (by
    have := hlen.out; rw [show ((n : Int) - 1 + 1).toNat = zs.length by omega, atI_end])⟩
  case round =>
    obtain ⟨k, Y, k0, k1, y0, y1, rfl, rfl, HI⟩ := hrel
    by_cases hlt : 0 ≤ k
    · obtain ⟨j, rfl⟩ := Int.eq_ofNat_of_zero_le hlt
      obtain ⟨a, z, rfl, hab, hck, HZ⟩ := H.out.intAt (show j < n by omega)
      have z0 : 0 ≤ z := by rw [HZ.out]; exact (HN.out j).1
      have z1 : z ≤ 112 := by rw [HZ.out]; exact (HN.out j).2
      obtain ⟨m0, m1⟩ := mul_bd Y x y0 y1 x0 x1
      have HI2 : Hid ((Y * x + z) % 113 = atI (zs.drop j) x) := Lib.hid (by
        rw [atI_drop zs x j (by have := hlen.out; omega), ← HZ.out, HI.out, show ((j : Int) + 1).toNat = j + 1 by omega])
      clear HI
      go_wp2
      go_round
      case rel => exact ⟨(j : Int) - 1, (Y * x + z) % 113, by omega, by omega, by omega, by omega, rfl, rfl, Lib.hid (by rw [HI2.out, show ((j : Int) - 1 + 1).toNat = j by omega])⟩
      case measure => simp [intOf] <;> omega
    · have HF : Hid (Y = atI zs x) := Lib.hid (by rw [HI.out, show (k + 1).toNat = 0 by omega]; rfl)
      clear HI
      go_wp2
      go_ret
      exact ⟨ret_i HF.out, rfl⟩

set_option maxHeartbeats 400000 in
theorem i_polynomial_at (A : Option Addr) (n c : Nat) (zs : List Int) (x : Int) (w : World) (h : Rd w w.heap.size 1 A n (cI zs)) (hN : Nums zs) (hn : n ≤ 1048576) (x0 : 0 ≤ x) (x1 : x ≤ 112) :
    Calls Try.prog 29 #[.slice A n c, .int .i64 x] w fun e w' => e = .returned (.int .i64 (atI zs x)) ∧ Still w w' := by
  have hlen : Hid (zs.length = n) := Lib.hid h.len
  have H := Lib.hid h
  have HN := Lib.hid hN
  clear h hN
  go_enter Try.func29, Try.ntmps29
  go_wp2
  go_loopw [5, 6] (fun y i wr => ∃ (k Y : Int), -1 ≤ k ∧ k < n ∧ 0 ≤ Y ∧ Y ≤ 112 ∧ i = .int .i64 k ∧ y = .int .i64 Y ∧ Hid (Still w wr) ∧ Hid (Y = atI (zs.drop (k + 1).toNat) x)) (fun _ i _ => (intOf i + 1).toNat)
  case atStart => exact ⟨(n : Int) - 1, 0, by omega, by omega, by omega, by omega, rfl, rfl, Lib.hid (Still.refl _), Lib.hid (by
    have := hlen.out; rw [show ((n : Int) - 1 + 1).toNat = zs.length by omega, atI_end])⟩
  case round =>
    obtain ⟨k, Y, k0, k1, y0, y1, rfl, rfl, HS, HI⟩ := hrel
    by_cases hlt : 0 ≤ k
    · obtain ⟨j, rfl⟩ := Int.eq_ofNat_of_zero_le hlt
      obtain ⟨a, z, rfl, hab, hck, HZ⟩ := H.out.intAt (show j < n by omega)
      have z0 : 0 ≤ z := by rw [HZ.out]; exact (HN.out j).1
      have z1 : z ≤ 112 := by rw [HZ.out]; exact (HN.out j).2
      obtain ⟨m0, m1⟩ := mul_bd Y x y0 y1 x0 x1
      have p0 : 0 ≤ Y * x % 113 := by omega
      have p1 : Y * x % 113 ≤ 112 := by omega
      have HI2 : Hid ((Y * x % 113 + z) % 113 = atI (zs.drop j) x) := Lib.hid (by
        rw [atI_drop zs x j (by have := hlen.out; omega), ← HZ.out, Int.emod_add_emod, HI.out, show ((j : Int) + 1).toNat = j + 1 by omega])
      clear HI
      have hck2 := (HS.out.cell (a.add j)).trans hck
      clear hck
      have i0 : (0 : Int) ≤ (j : Int) := by omega
      have i1 : (j : Int) < (n : Int) := by omega
      go_wp2
      go_quiet ((first | (go_at_call 35; exact quiet_drewN (i_times _ _ _ y0 y1 x0 x1)) | (go_at_call 36; exact quiet_drewN (i_plus _ _ _ p0 p1 z0 z1))))
      go_wp2
      go_roundw
      case rel => exact ⟨(j : Int) - 1, (Y * x % 113 + z) % 113, by omega, by omega, by omega, by omega, rfl, rfl, Lib.hid (HS.out.drewN _), Lib.hid (by rw [HI2.out, show ((j : Int) - 1 + 1).toNat = j by omega])⟩
      case measure => simp [intOf] <;> omega
    · have HF : Hid (Y = atI zs x) := Lib.hid (by rw [HI.out, show (k + 1).toNat = 0 by omega]; rfl)
      clear HI
      go_wp2
      go_ret
      exact ⟨ret_i HF.out, HS.out⟩
end Go.Proofs.Ytpaaimmakkfbkaa

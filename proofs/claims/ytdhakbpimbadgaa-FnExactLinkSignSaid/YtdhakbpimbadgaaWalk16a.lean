/- Chapter 16: what is mixed, both sides. -/
import Derived.Test.YtdhakbpimbadgaaMath22
import Derived.Test.YtdhakbpimbadgaaIn
import Derived.Test.YtdhakbpimbadgaaFaceI
import Derived.Test.YtdhakbpimbadgaaWalk2a
namespace Go.Proofs.Ytdhakbpimbadgaa
open Go.RowKit
set_option maxRecDepth 100000

theorem mix_sq (m : Int) (h0 : 0 ≤ m) (h1 : m ≤ 65520) : 0 ≤ m * m ∧ m * m ≤ 4292870400 :=
  ⟨Int.mul_nonneg h0 h0, by have := Int.mul_le_mul h1 h1 h0 (by omega : (0:Int) ≤ 65520); omega⟩
theorem mixL_take (zs : List Int) (k : Nat) (h : k < zs.length) : mixL (zs.take (k + 1)) = mixF (mixL (zs.take k)) (zs.getD k 0) := by
  rw [take_snocD _ _ h, mixL_snoc]
theorem mixB_bad {zs : List Int} {k : Nat} (hk : k < zs.length) (h : ¬ (0 ≤ zs.getD k 0 ∧ zs.getD k 0 ≤ 226)) : mixB zs = false := by
  cases e : mixB zs
  · rfl
  · exact absurd (mixB_at e hk) h
theorem mixB_take (zs : List Int) (k : Nat) (h : k < zs.length) : mixB (zs.take (k + 1)) = (mixB (zs.take k) && decide (0 ≤ zs.getD k 0 ∧ zs.getD k 0 ≤ 226)) := by
  rw [take_snocD _ _ h, mixB_append]; simp [mixB]
set_option maxHeartbeats 1000000 in
theorem s_l16Mix (A : Option Addr) (n c hi : Nat) (zs : List Int) (w : World) (h : Rd w hi 1 A n (cI zs)) (hn : n ≤ 8388608) (hb : mixB zs = true) :
    Calls Try.prog 93 #[.slice A n c] w fun e w' => e = .returned (.int .i64 (mixL zs % 113)) ∧ w = w' := by
  have hlen : Hid (zs.length = n) := Lib.hid h.len
  have H := Lib.hid h
  have HB := Lib.hid hb
  clear h hb
  go_enter Try.func93, Try.ntmps93
  go_wp2
  go_loop [3, 4] (fun m i => ∃ (k : Nat) (M : Int), k ≤ n ∧ m = .int .i64 M ∧ i = .int .i64 k ∧ 0 ≤ M ∧ M ≤ 65520 ∧ Hid (M = mixL (zs.take k))) (fun _ i => n - (intOf i).toNat)
  case atStart => exact ⟨0, 7, Nat.zero_le _, rfl, rfl, by omega, by omega, Lib.hid rfl⟩
  case round =>
    obtain ⟨k, M, hk, rfl, rfl, m0, m1, HM⟩ := hrel
    by_cases hlt : k < n
    · obtain ⟨a, z, rfl, hab, hc, HZ⟩ := H.out.intAt hlt
      have hz := mixB_at HB.out (k := k) (by have := hlen.out; omega)
      rw [← HZ.out] at hz
      obtain ⟨z0, z1⟩ := hz
      obtain ⟨q0, q1⟩ := mix_sq M m0 m1
      have HM2 : Hid ((M * M + 31 * M + z + 1) % 65521 = mixL (zs.take (k + 1))) := Lib.hid (by rw [mixL_take zs k (by have := hlen.out; omega), ← HM.out, ← HZ.out]; rfl)
      clear HM HZ
      go_wp2
      go_round
      case rel => exact ⟨k + 1, _, by omega, rfl, by go_num, by omega, by omega, HM2⟩
      case measure => simp [intOf] <;> omega
    · have HF : Hid (M % 113 = mixL zs % 113) := Lib.hid (by rw [HM.out, show k = zs.length by have := hlen.out; omega, List.take_length])
      clear HM
      go_wp2
      go_ret
      exact ⟨ret_int HF.out, rfl⟩

set_option maxHeartbeats 1000000 in
theorem s_l16Mix_any (A : Option Addr) (n c hi : Nat) (zs : List Int) (w : World) (h : Rd w hi 1 A n (cI zs)) (hn : n ≤ 8388608) :
    Calls Try.prog 93 #[.slice A n c] w fun e w' => (∃ v : Int, e = .returned (.int .i64 v)) ∧ w = w' := by
  have H := Lib.hid h
  clear h
  go_enter Try.func93, Try.ntmps93
  go_wp2
  go_loop [3, 4] (fun m i => ∃ (k : Nat) (M : Int), k ≤ n ∧ m = .int .i64 M ∧ i = .int .i64 k) (fun _ i => n - (intOf i).toNat)
  case atStart => exact ⟨0, 7, Nat.zero_le _, rfl, rfl⟩
  case round =>
    obtain ⟨k, M, hk, rfl, rfl⟩ := hrel
    by_cases hlt : k < n
    · obtain ⟨a, z, rfl, hab, hc, HZ⟩ := H.out.intAt hlt
      clear HZ
      go_wp2
      go_round
      case rel => exact ⟨k + 1, _, by omega, rfl, by go_num⟩
      case measure => simp [intOf] <;> omega
    · go_wp2
      go_ret
      exact ⟨⟨_, rfl⟩, rfl⟩
set_option maxHeartbeats 1000000 in
theorem i_Mix (A : Option Addr) (n c : Nat) (zs : List Int) (w : World) (h : Rd w w.heap.size 1 A n (cI zs)) (hn : n ≤ 8388608) :
    Calls Try.prog 96 #[.slice A n c] w fun e w' => e = .returned (.int .i64 (mixV zs)) ∧ w = w' := by
  have hlen : Hid (zs.length = n) := Lib.hid h.len
  have H := Lib.hid h
  clear h
  go_enter Try.func96, Try.ntmps96
  go_wp2
  go_loop [3, 8] (fun m i => ∃ (k : Nat) (M : Int), k ≤ n ∧ m = .int .i64 M ∧ i = .int .i64 k ∧ 0 ≤ M ∧ M ≤ 65520 ∧ Hid (M = mixL (zs.take k)) ∧ Hid (mixB (zs.take k) = true)) (fun _ i => n - (intOf i).toNat)
  case atStart => exact ⟨0, 7, Nat.zero_le _, rfl, rfl, by omega, by omega, Lib.hid rfl, Lib.hid rfl⟩
  case round =>
    obtain ⟨k, M, hk, rfl, rfl, m0, m1, HM, HB⟩ := hrel
    by_cases hlt : k < n
    · obtain ⟨a, z, rfl, hab, hc, HZ⟩ := H.out.intAt hlt
      by_cases z0 : 0 ≤ z
      · by_cases z1 : z < 227
        · obtain ⟨q0, q1⟩ := mix_sq M m0 m1
          have z2 : z ≤ 226 := by omega
          have z3 : ¬ z < 0 := by omega
          have z4 : ¬ 227 ≤ z := by omega
          have HM2 : Hid ((M * M + 31 * M + z + 1) % 65521 = mixL (zs.take (k + 1))) := Lib.hid (by rw [mixL_take zs k (by have := hlen.out; omega), ← HM.out, ← HZ.out]; rfl)
          have HB2 : Hid (mixB (zs.take (k + 1)) = true) := Lib.hid (by rw [mixB_take zs k (by have := hlen.out; omega), HB.out, ← HZ.out]; simp; omega)
          clear HM HZ HB
          go_wp2
          go_round
          case rel => exact ⟨k + 1, _, by omega, rfl, by go_num, by omega, by omega, HM2, HB2⟩
          case measure => simp [intOf] <;> omega
        · have HF : Hid (-1 = mixV zs) := Lib.hid (by unfold mixV; rw [mixB_bad (k := k) (by have := hlen.out; omega) (by rw [← HZ.out]; omega)]; rfl)
          have z3 : ¬ z < 0 := by omega
          have z4 : 227 ≤ z := by omega
          clear z1 HM HB HZ
          go_wp2
          go_ret
          exact ⟨ret_int HF.out, rfl⟩
      · have HF : Hid (-1 = mixV zs) := Lib.hid (by unfold mixV; rw [mixB_bad (k := k) (by have := hlen.out; omega) (by rw [← HZ.out]; omega)]; rfl)
        have z3 : z < 0 := by omega
        clear z0 HM HB HZ
        go_wp2
        go_ret
        exact ⟨ret_int HF.out, rfl⟩
    · have HF : Hid (M % 113 = mixV zs) := Lib.hid (by
        have h2 := HB.out
        rw [show k = zs.length by have := hlen.out; omega, List.take_length] at h2
        unfold mixV; rw [if_pos h2, HM.out, show k = zs.length by have := hlen.out; omega, List.take_length])
      clear HM HB
      go_wp2
      go_ret
      exact ⟨ret_int HF.out, rfl⟩
theorem X_i_Mix (v : Value) (d : List Int) (w : World) (h : RdIntS w w.heap.size v d) (hs : szIntS d ≤ 1048576) :
    Calls Try.prog 96 #[v] w fun e w' => e = .returned (.int .i64 (mixV d)) ∧ Below w.heap.size w w' := by
  obtain ⟨A, n, c, rfl, _, r⟩ := h
  have := r.len; unfold szIntS at hs
  exact (i_Mix A n c d w r (by omega)).mono fun e w' ⟨he, hw⟩ => ⟨he, hw ▸ Below.refl _ _⟩
end Go.Proofs.Ytdhakbpimbadgaa

/- Chapter 4: lists of points as results: marked, held; the numbers in them; SharesScale in the model. -/
import Derived.Test.YtaiilopfdjbceaaWalk5c
namespace Go.Proofs.Ytaiilopfdjbceaa
open Go.RowKit
set_option maxRecDepth 100000

theorem iotaP_get (K : Int) (n k : Nat) (h : k < n) : (iotaP K n).getD k (0, 0) = (K + 2 * (k : Int), K + 2 * (k : Int) + 1) := by
  simp [iotaP, h]

set_option maxHeartbeats 400000 in
theorem l_heldPointS (A : Option Addr) (n c hi : Nat) (K : Int) (w : World) (h : Rd w hi 2 A n (cP (iotaP K n))) (hn : n ≤ 1048576) (hK : 0 ≤ K) (hK2 : K ≤ 1000000000000) :
    Calls Try.prog 26 #[.slice A n c, .int .i64 K] w fun e w' => e = .returned (.int .i64 (K + 2 * n)) ∧ Still w w' := by
  have H := Lib.hid h
  clear h
  go_enter Try.func26, Try.ntmps26
  go_wp2
  go_loopw [1, 5] (fun kk i wr => ∃ k m : Nat, k ≤ n ∧ i = .int .i64 k ∧ kk = .int .i64 (K + 2 * k) ∧ wr = w.drewN m) (fun _ i _ => n - (intOf i).toNat)
  case atStart => exact ⟨0, 0, Nat.zero_le _, rfl, by go_num, rfl⟩
  case round =>
    obtain ⟨k, m, hk, rfl, rfl, rfl⟩ := hrel
    by_cases hlt : k < n
    · obtain ⟨a, x, y, rfl, hab, hx, hy, HP⟩ := H.out.ptAt hlt
      have hp := HP.out
      rw [iotaP_get K n k hlt] at hp
      injection hp with hp1 hp2
      subst hp1; subst hp2
      have i0 : (0 : Int) ≤ (k : Int) := by omega
      have i1 : (k : Int) < (n : Int) := by omega
      clear HP
      go_wp2
      try go_quiet (fail)
      try go_wp2
      go_roundw
      case rel => exact ⟨k + 1, _, by omega, by go_num, by go_num, rfl⟩
      case measure => simp [intOf] <;> omega
    · have hkn : k = n := by omega
      have HR : Hid (K + 2 * (k : Int) = K + 2 * (n : Int)) := Lib.hid (by rw [hkn])
      clear hkn
      go_wp2
      go_ret
      exact ⟨ret_int HR.out, m, rfl⟩

theorem L_heldPointS (hi : Nat) (v : Value) (d : List (Int × Int)) (K q : Int) (w : World) (h : RdPointS w hi v (mkPointS K d)) (_hz : hi ≤ w.heap.size) (hs : szPointS d ≤ 1048576) (hq : Hid (q = K)) (hK : 0 ≤ K) (hK2 : K ≤ 1000000000) :
    Calls Try.prog 26 #[v, .int .i64 q] w fun e w' => ∃ K', e = .returned (.int .i64 K') ∧ Hid (K' = K + 2 * szPointS d) ∧ 0 ≤ K' ∧ K' ≤ K + 2097152 ∧ Below w.heap.size w w' := by
  obtain ⟨A, n, c, rfl, _, r⟩ := h
  have hl := r.plen
  rw [mkPointS, iotaP_length] at hl
  unfold szPointS at hs
  obtain rfl : q = K := hq.out
  unfold mkPointS at r; rw [hl] at r
  refine (l_heldPointS A n c hi q w r (by omega) hK (by omega)).mono fun e w' ⟨he, hk⟩ => ?_
  exact ⟨_, he, Lib.hid (by unfold szPointS; omega), by omega, by omega, hk.below _⟩

/-! the numbers in a list of points -/
def numK (ps : List (Int × Int)) : Nat → Bool
  | 0 => true
  | k + 1 => numK ps k && (numB (px ps k) && numB (py ps k))
theorem numK_mono {ps : List (Int × Int)} {k n : Nat} (h : numK ps n = true) (hk : k ≤ n) : numK ps k = true := by
  induction n with
  | zero => rw [show k = 0 by omega]; rfl
  | succ n ih =>
    by_cases hc : k = n + 1
    · rw [hc]; exact h
    · exact ih (by simp only [numK, Bool.and_eq_true] at h; exact h.1) (by omega)
theorem numK_bad {ps : List (Int × Int)} {k n : Nat} (h : numK ps (k + 1) = false) (hk : k < n) : numK ps n = false := by
  apply Bool.eq_false_iff.2
  intro ht
  rw [numK_mono ht (show k + 1 ≤ n by omega)] at h; cases h
theorem numK_at {ps : List (Int × Int)} {k n : Nat} (h : numK ps n = true) (hk : k < n) : (0 ≤ px ps k ∧ px ps k ≤ 112) ∧ 0 ≤ py ps k ∧ py ps k ≤ 112 := by
  have := numK_mono h (show k + 1 ≤ n by omega)
  simp only [numK, Bool.and_eq_true] at this
  exact ⟨(numB_iff _).1 this.2.1, (numB_iff _).1 this.2.2⟩

set_option maxHeartbeats 1000000 in
theorem s_l4Points (A : Option Addr) (n c : Nat) (ps : List (Int × Int)) (w : World) (h : Rd w w.heap.size 2 A n (cP ps)) (hn : n ≤ 1048576) :
    Calls Try.prog 61 #[.slice A n c] w fun e w' => e = .returned (.bool (numK ps n)) ∧ w = w' := by
  have H := Lib.hid h
  clear h
  go_enter Try.func61, Try.ntmps61
  go_wp2
  go_loop [3] (fun i => ∃ k : Nat, k ≤ n ∧ i = .int .i64 k ∧ Hid (numK ps k = true)) (fun i => n - (intOf i).toNat)
  case atStart => exact ⟨0, Nat.zero_le _, rfl, Lib.hid rfl⟩
  case round =>
    obtain ⟨k, hk, rfl, HK⟩ := hrel
    by_cases hlt : k < n
    · obtain ⟨a, x, y, rfl, hab, hx, hy, HP⟩ := H.out.ptAt hlt
      have HXY := Lib.hid (pxy HP.out)
      have i0 : (0 : Int) ≤ (k : Int) := by omega
      have i1 : (k : Int) < (n : Int) := by omega
      cases hbx : numB x
      · have HF : Hid (false = numK ps n) := Lib.hid (numK_bad (k := k) (by rw [numK, HXY.out.1, hbx]; simp) hlt).symm
        go_wp2_with (first | (go_at_call 60; refine (s_NumOk _ _).mono ?_; rintro e w' ⟨rfl, rfl⟩) | go_in)
        go_ret
        exact ⟨ret_bool HF.out, rfl⟩
      · cases hby : numB y
        · have HF : Hid (false = numK ps n) := Lib.hid (numK_bad (k := k) (by rw [numK, HXY.out.2, hby]; simp) hlt).symm
          go_wp2_with (first | (go_at_call 60; refine (s_NumOk _ _).mono ?_; rintro e w' ⟨rfl, rfl⟩) | go_in)
          go_ret
          exact ⟨ret_bool HF.out, rfl⟩
        · have HK2 : Hid (numK ps (k + 1) = true) := Lib.hid (by rw [numK, HK.out, HXY.out.1, HXY.out.2, hbx, hby]; rfl)
          go_wp2_with (first | (go_at_call 60; refine (s_NumOk _ _).mono ?_; rintro e w' ⟨rfl, rfl⟩) | go_in)
          go_round
          case rel => exact ⟨k + 1, by omega, by go_num, HK2⟩
          case measure => simp [intOf] <;> omega
    · have HF : Hid (true = numK ps n) := Lib.hid (by rw [← HK.out, show k = n by omega])
      go_wp2
      go_ret
      exact ⟨ret_bool HF.out, rfl⟩

set_option maxHeartbeats 1000000 in
theorem i_pointsOfNumbers (A : Option Addr) (n c : Nat) (ps : List (Int × Int)) (w : World) (h : Rd w w.heap.size 2 A n (cP ps)) (hn : n ≤ 1048576) :
    Calls Try.prog 64 #[.slice A n c] w fun e w' => e = .returned (.bool (numK ps n)) ∧ Below w.heap.size w w' := by
  have H := Lib.hid h
  clear h
  go_enter Try.func64, Try.ntmps64
  go_wp2
  go_loopw [7] (fun i wr => ∃ k : Nat, k ≤ n ∧ i = .int .i64 k ∧ Hid (numK ps k = true) ∧ Hid (Below w.heap.size w wr)) (fun i _ => n - (intOf i).toNat)
  case atStart => exact ⟨0, Nat.zero_le _, rfl, Lib.hid rfl, Lib.hid (Below.refl _ _)⟩
  case round =>
    obtain ⟨k, hk, rfl, HK, HS⟩ := hrel
    by_cases hlt : k < n
    · obtain ⟨a, x, y, rfl, hab, hx0, hy0, HP⟩ := H.out.ptAt hlt
      have hx := (HS.out.cell (p := a.add (k * 2)) (by rw [add_block]; exact hab)).trans hx0
      have hy := (HS.out.cell (p := ⟨(a.add (k * 2)).block, (a.add (k * 2)).off + 1, none⟩) (by rw [add_block]; exact hab)).trans hy0
      have HXY := Lib.hid (pxy HP.out)
      clear hx0 hy0
      have HSa := Lib.hid ((HS.out.alloc HS.out.size (.cells #[.int .i64 x, .int .i64 y] 44)).alloc (by have := HS.out.size; simp; omega) (.cells #[.int .i64 x, .int .i64 y] 44))
      clear HS
      have i0 : (0 : Int) ≤ (k : Int) := by omega
      have i1 : (k : Int) < (n : Int) := by omega
      cases hb : numB x && numB y
      · have HF : Hid (false = numK ps n) := Lib.hid (numK_bad (k := k) (by rw [numK, HXY.out.1, HXY.out.2, hb]; simp) hlt).symm
        go_wp2_with fail
        refine (i_Point_ok _ _ _).mono ?_
        rintro e w' ⟨rfl, rfl⟩
        rw [hb]
        go_wp2
        go_ret
        exact ⟨ret_bool HF.out, HSa.out⟩
      · have HK2 : Hid (numK ps (k + 1) = true) := Lib.hid (by rw [numK, HK.out, HXY.out.1, HXY.out.2, hb]; rfl)
        go_wp2_with fail
        refine (i_Point_ok _ _ _).mono ?_
        rintro e w' ⟨rfl, rfl⟩
        rw [hb]
        go_wp2
        go_roundw
        case rel => exact ⟨k + 1, by omega, by go_num, HK2, HSa⟩
        case measure => simp [intOf] <;> omega
    · have HF : Hid (true = numK ps n) := Lib.hid (by rw [← HK.out, show k = n by omega])
      go_wp2
      go_ret
      exact ⟨ret_bool HF.out, HS.out⟩
end Go.Proofs.Ytaiilopfdjbceaa

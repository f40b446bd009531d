/- Chapter 9: PartiesWeight of both sides. -/
import Derived.Test.YtbmjepmlalfpgaaWalk9c0
import Derived.Test.YtbmjepmlalfpgaaWalk2m
import Derived.Test.YtbmjepmlalfpgaaWalk2b
import Derived.Test.YtbmjepmlalfpgaaWalk3a
import Derived.Test.YtbmjepmlalfpgaaWalk5a
namespace Go.Proofs.Ytbmjepmlalfpgaa
open Go.RowKit
set_option maxRecDepth 100000

/-- the model's weight: the first k factors -/
def wgK (i : Int) : Nat → Int
  | 0 => 1
  | k + 1 => if (k : Int) + 1 = i then wgK i k else (wgK i k * ((k : Int) + 1) % 113) * powI (((k : Int) + 1 - i) % 113) 111 113 % 113
/-- the points of the program: 1 at party i, 0 at all others -/
def onesP (i : Int) (n : Nat) : List (Int × Int) := (uptoF (fun k => ((k : Int) + 1, 0)) n).set (i - 1).toNat (i, 1)
def wgOk (i b : Int) : Bool := inB b 0 3 && inB i 1 (2 * b + 1)
def wgV (i b : Int) : Int := if wgOk i b then wgK i (2 * b + 1).toNat else 0
theorem wg_same : ∀ b : Fin 4, ∀ i : Fin (2 * b.1 + 1), atI (thrI (onesP ((i.1 : Int) + 1) (2 * b.1 + 1)) (2 * b.1 + 1)).1 0 = wgK ((i.1 : Int) + 1) (2 * b.1 + 1) := by decide +kernel
theorem ones_ok : ∀ b : Fin 4, ∀ i : Fin (2 * b.1 + 1), okK (onesP ((i.1 : Int) + 1) (2 * b.1 + 1)) (2 * b.1 + 1) = true := by decide +kernel
theorem wg_is {i b : Int} (h : wgOk i b = true) : atI (thrI (onesP i (2 * b + 1).toNat) (2 * b + 1).toNat).1 0 = wgK i (2 * b + 1).toNat ∧ okK (onesP i (2 * b + 1).toNat) (2 * b + 1).toNat = true := by
  simp only [wgOk, Bool.and_eq_true, inB_iff] at h
  obtain ⟨⟨b0, b1⟩, i0, i1⟩ := h
  obtain ⟨bn, rfl⟩ : ∃ n : Nat, b = n := ⟨b.toNat, by omega⟩
  obtain ⟨m, rfl⟩ : ∃ n : Nat, i = (n : Int) + 1 := ⟨(i - 1).toNat, by omega⟩
  have e : (2 * (bn : Int) + 1).toNat = 2 * bn + 1 := by omega
  rw [e]
  exact ⟨wg_same ⟨bn, by omega⟩ ⟨m, by show m < 2 * bn + 1; omega⟩, ones_ok ⟨bn, by omega⟩ ⟨m, by show m < 2 * bn + 1; omega⟩⟩
theorem wg_bd (i : Int) (k : Nat) : 0 ≤ wgK i k ∧ wgK i k ≤ 112 := by
  induction k with
  | zero => simp [wgK]
  | succ k ih =>
    simp only [wgK]
    split
    · exact ih
    · omega

set_option maxHeartbeats 4000000 in
theorem s_l9Weight (i b : Int) (w : World) (hb : 0 ≤ b ∧ b ≤ 3) (hi : 1 ≤ i ∧ i ≤ 2 * b + 1) :
    Calls Try.prog 89 #[.int .i64 i, .int .i64 b] w fun e w' => e = .returned (.int .i64 (wgK i (2 * b + 1).toNat)) ∧ w = w' := by
  obtain ⟨N, hN⟩ : ∃ N : Nat, (N : Int) = 2 * b + 1 := ⟨(2 * b + 1).toNat, by omega⟩
  have hNN : (2 * b + 1).toNat = N := by omega
  rw [hNN]
  have iw : IntKind.i64.wrap (2 * b) = 2 * b := IntWalk.i64_in _ (by omega)
  have iw2 : IntKind.i64.wrap (2 * b + 1) = 2 * b + 1 := IntWalk.i64_in _ (by omega)
  have HB := Lib.hid (wg_bd i)
  clear hNN
  go_enter Try.func89, Try.ntmps89
  go_wp2
  go_loop [5, 6] (fun o c => ∃ (k : Nat) (M : Int), k ≤ N ∧ c = .int .i64 ((k : Int) + 1) ∧ o = .int .i64 M ∧ 0 ≤ M ∧ M ≤ 112 ∧ Hid (M = wgK i k)) (fun _ c => N + 1 - (intOf c).toNat)
  case atStart => exact ⟨0, 1, Nat.zero_le _, rfl, rfl, by omega, by omega, Lib.hid rfl⟩
  case round =>
    obtain ⟨k, M, hk, rfl, rfl, M0, M1, HM⟩ := hrel
    have B1 := HB.out (k + 1)
    by_cases hlt : k < N
    · have j0 : (k : Int) + 1 ≤ 2 * b + 1 := by omega
      by_cases he : (k : Int) + 1 = i
      · have HE : Hid (M = wgK i (k + 1)) := Lib.hid (by rw [wgK, if_pos he, HM.out])
        rw [← HE.out] at B1
        clear HM
        go_wp2
        go_round
        case rel => exact ⟨k + 1, _, by omega, by go_num, rfl, B1.1, B1.2, HE⟩
        case measure => simp [intOf] <;> omega
      · have HE : Hid (M * ((k : Int) + 1) % 113 * powI (((k : Int) + 1 - i) % 113) 111 113 % 113 = wgK i (k + 1)) := Lib.hid (by rw [wgK, if_neg he, HM.out])
        have hpw : 0 ≤ powI (((k : Int) + 1 - i) % 113) 111 113 ∧ powI (((k : Int) + 1 - i) % 113) 111 113 ≤ 112 := ⟨powI_lo _ _ _, powI_hi _ _ _ (by omega)⟩
        have hm1 : 0 ≤ M * ((k : Int) + 1) ∧ M * ((k : Int) + 1) ≤ 12544 := mul_bd M ((k : Int) + 1) M0 M1 (by omega) (by omega)
        have q1 : 1 ≤ ((k : Int) + 1 - i) % 113 := by omega
        have q2 : ((k : Int) + 1 - i) % 113 ≤ 112 := by omega
        generalize hP : powI (((k : Int) + 1 - i) % 113) 111 113 = P at hpw HE
        have hm2 : 0 ≤ M * ((k : Int) + 1) % 113 * P ∧ M * ((k : Int) + 1) % 113 * P ≤ 12544 := mul_bd _ P (by omega) (by omega) hpw.1 hpw.2
        rw [← HE.out] at B1
        have a1 : IntKind.i64.wrap (M * ((k : Int) + 1)) = M * ((k : Int) + 1) := IntWalk.i64_in _ (by omega)
        have a2 : (M * ((k : Int) + 1)).tmod 113 = M * ((k : Int) + 1) % 113 := Int.tmod_eq_emod_of_nonneg hm1.1
        have a3 : IntKind.i64.wrap (M * ((k : Int) + 1) % 113 * P) = M * ((k : Int) + 1) % 113 * P := IntWalk.i64_in _ (by omega)
        have a4 : (M * ((k : Int) + 1) % 113 * P).tmod 113 = M * ((k : Int) + 1) % 113 * P % 113 := Int.tmod_eq_emod_of_nonneg hm2.1
        clear HM
        go_wp2_with fail
        refine (s_l1Sub _ _ _ (by omega) (by omega) (by omega) (by omega)).mono ?_
        rintro e w' ⟨rfl, rfl⟩
        go_wp2_with fail
        refine (s_l1Inv _ _ q1 q2).mono ?_
        rintro e w' ⟨rfl, rfl⟩
        rw [hP]
        go_wp2
        go_round
        case rel => exact ⟨k + 1, _, by omega, by go_num, rfl, B1.1, B1.2, HE⟩
        case measure => simp [intOf] <;> omega
    · have hkn : k = N := by omega
      have HF : Hid (M = wgK i N) := Lib.hid (by rw [← hkn]; exact HM.out)
      have j0 : ¬ ((k : Int) + 1 ≤ 2 * b + 1) := by omega
      clear HM hkn
      go_wp2
      go_ret
      exact ⟨ret_i HF.out, rfl⟩

set_option maxHeartbeats 1000000 in
theorem X_s_PartiesWeight (i b : Int) (w : World) :
    Calls Try.prog 47 #[.int .i64 i, .int .i64 b] w fun e w' => e = .returned (.tuple #[.int .i64 (wgV i b), .bool (wgOk i b)]) ∧ Below w.heap.size w w' := by
  cases e1 : inB b 0 3
  · have HF : Hid (wgOk i b = false) := Lib.hid (by simp [wgOk, e1])
    go_enter Try.func47, Try.ntmps47
    go_wp2_with fail
    refine (s_l6In _ _ _ _).mono ?_
    rintro e w' ⟨rfl, rfl⟩
    rw [e1]
    go_wp2
    go_ret2
    exact ⟨ret_tib (by rw [wgV, HF.out]; rfl) HF.out.symm, Below.refl _ _⟩
  · have hb := inB_iff.1 e1
    have iw : IntKind.i64.wrap (2 * b) = 2 * b := IntWalk.i64_in _ (by omega)
    have iw2 : IntKind.i64.wrap (2 * b + 1) = 2 * b + 1 := IntWalk.i64_in _ (by omega)
    cases e2 : inB i 1 (2 * b + 1)
    · have HF : Hid (wgOk i b = false) := Lib.hid (by simp [wgOk, e2])
      go_enter Try.func47, Try.ntmps47
      go_wp2_with fail
      refine (s_l6In _ _ _ _).mono ?_
      rintro e w' ⟨rfl, rfl⟩
      rw [e1]
      go_wp2_with fail
      refine (s_l6In _ _ _ _).mono ?_
      rintro e w' ⟨rfl, rfl⟩
      rw [e2]
      go_wp2
      go_ret2
      exact ⟨ret_tib (by rw [wgV, HF.out]; rfl) HF.out.symm, Below.refl _ _⟩
    · have HF : Hid (wgOk i b = true) := Lib.hid (by simp [wgOk, e1, e2])
      have hi := inB_iff.1 e2
      go_enter Try.func47, Try.ntmps47
      go_wp2_with fail
      refine (s_l6In _ _ _ _).mono ?_
      rintro e w' ⟨rfl, rfl⟩
      rw [e1]
      go_wp2_with fail
      refine (s_l6In _ _ _ _).mono ?_
      rintro e w' ⟨rfl, rfl⟩
      rw [e2]
      go_wp2_with fail
      refine (s_l9Weight i b _ hb hi).mono ?_
      rintro e w' ⟨rfl, rfl⟩
      go_wp2
      go_ret2
      exact ⟨ret_tib (by rw [wgV, HF.out]; rfl) HF.out.symm, Below.refl _ _⟩

/-! the program -/
set_option maxHeartbeats 1000000 in
theorem i_weight1 (k : Nat) (w : World) (hk : k ≤ 1000) :
    Calls Try.prog 109 #[.int .i64 k] w fun e w' => e = .returned (.agg #[.int .i64 ((k : Int) + 1), .int .i64 0]) ∧ Below w.heap.size w w' := by
  go_enter Try.func109, Try.ntmps109
  go_wp2
  refine bodyPost_ret (v := .agg #[.int .i64 ((k : Int) + 1), .int .i64 0]) (by simp [results, Try.results109, go_sem]) rfl ⟨rfl, ?_⟩
  exact (Below.refl _ _).alloc (Nat.le_refl _) _
theorem cP_setY2 (ps : List (Int × Int)) : ∀ (k : Nat) (x y y' : Int), ps[k]? = some (x, y) → (cP ps).set (k * 2 + 1) (.int .i64 y') = cP (ps.set k (x, y')) := by
  induction ps with
  | nil => intro k x y y' h; simp at h
  | cons p t ih =>
    intro k x y y' h
    cases k with
    | zero => simp at h; subst h; rfl
    | succ k =>
      rw [cP_cons, show (k + 1) * 2 + 1 = k * 2 + 1 + 1 + 1 by omega, List.set_cons_succ, List.set_cons_succ, ih k x y y' (by simpa using h), List.set_cons_succ, cP_cons]
theorem upto_get (f : Nat → Int × Int) {k n : Nat} (h : k < n) : (uptoF f n)[k]? = some (f k) := by simp [uptoF, h]

end Go.Proofs.Ytbmjepmlalfpgaa

/- Chapter 17: how many bits an index has; the extension in the model. Made by tools/gen17/b.py. -/
import Derived.Test.YtaiilopfdjbceaaWalk17a
import Derived.Deep.RegionHeld3
import Derived.Deep.RegionLaw
namespace Go.Proofs.Ytaiilopfdjbceaa
open Go.RowKit
set_option maxRecDepth 100000

theorem own_fin2 {w1 : World} {B n : Nat} {v : Value} {ys : List Int} (h : w1.ownsRow B 3 1 v n (cI ys)) (hs : n ≤ 1048576) : ∃ A c, v = .slice A n c ∧ OwIntS w1 B w1.heap.size (.slice A n c) ys := by
  obtain ⟨A, c, rfl, ho⟩ := Ow.of_own h
  exact ⟨A, c, rfl, by have := ho.len; omega, A, _, c, rfl, ho⟩
set_option maxHeartbeats 1000000 in
theorem s_l17Bits1 (A : Option Addr) (c : Nat) (w : World) :
    Calls Try.prog 50 #[.slice A 2 c] w fun e w' => e = .returned (.int .i64 1) ∧ w = w' := by
  go_enter Try.func50, Try.ntmps50
  go_wp2
  go_loop [3] (fun v => ∃ q : Nat, q ≤ 1 ∧ v = .int .i64 q) (fun v => 1 - (intOf v).toNat)
  case atStart => exact ⟨0, by omega, rfl⟩
  case round =>
    obtain ⟨q, hq, rfl⟩ := hrel
    obtain rfl | rfl := (show q = 0 ∨ q = 1 by omega)
    · go_wp2
      go_round
      case rel => exact ⟨1, by omega, rfl⟩
      case measure => simp [intOf]
    · go_wp2
      go_ret
      exact ⟨rfl, rfl⟩
set_option maxHeartbeats 1000000 in
theorem s_l17Bits2 (A : Option Addr) (c : Nat) (w : World) :
    Calls Try.prog 50 #[.slice A 4 c] w fun e w' => e = .returned (.int .i64 2) ∧ w = w' := by
  go_enter Try.func50, Try.ntmps50
  go_wp2
  go_loop [3] (fun v => ∃ q : Nat, q ≤ 2 ∧ v = .int .i64 q) (fun v => 2 - (intOf v).toNat)
  case atStart => exact ⟨0, by omega, rfl⟩
  case round =>
    obtain ⟨q, hq, rfl⟩ := hrel
    obtain rfl | rfl | rfl := (show q = 0 ∨ q = 1 ∨ q = 2 by omega)
    · go_wp2
      go_round
      case rel => exact ⟨1, by omega, rfl⟩
      case measure => simp [intOf]
    · go_wp2
      go_round
      case rel => exact ⟨2, by omega, rfl⟩
      case measure => simp [intOf]
    · go_wp2
      go_ret
      exact ⟨rfl, rfl⟩
set_option maxHeartbeats 1000000 in
theorem s_l17Bits3 (A : Option Addr) (c : Nat) (w : World) :
    Calls Try.prog 50 #[.slice A 8 c] w fun e w' => e = .returned (.int .i64 3) ∧ w = w' := by
  go_enter Try.func50, Try.ntmps50
  go_wp2
  go_loop [3] (fun v => ∃ q : Nat, q ≤ 3 ∧ v = .int .i64 q) (fun v => 3 - (intOf v).toNat)
  case atStart => exact ⟨0, by omega, rfl⟩
  case round =>
    obtain ⟨q, hq, rfl⟩ := hrel
    obtain rfl | rfl | rfl | rfl := (show q = 0 ∨ q = 1 ∨ q = 2 ∨ q = 3 by omega)
    · go_wp2
      go_round
      case rel => exact ⟨1, by omega, rfl⟩
      case measure => simp [intOf]
    · go_wp2
      go_round
      case rel => exact ⟨2, by omega, rfl⟩
      case measure => simp [intOf]
    · go_wp2
      go_round
      case rel => exact ⟨3, by omega, rfl⟩
      case measure => simp [intOf]
    · go_wp2
      go_ret
      exact ⟨rfl, rfl⟩
theorem s_l17Bits (A : Option Addr) (n c : Nat) (zs : List Int) (w : World) (hl : zs.length = n) (hb : cubeB zs = true) :
    Calls Try.prog 50 #[.slice A n c] w fun e w' => e = .returned (.int .i64 (bitsK n)) ∧ w = w' := by
  have := (cubeB_iff.1 hb).1
  rw [hl] at this
  rcases this with rfl | rfl | rfl
  · exact s_l17Bits1 A c w
  · exact s_l17Bits2 A c w
  · exact s_l17Bits3 A c w
set_option maxHeartbeats 1000000 in
theorem i_variables1 (A : Option Addr) (c : Nat) (w : World) :
    Calls Try.prog 69 #[.slice A 2 c] w fun e w' => e = .returned (.int .i64 1) ∧ w = w' := by
  go_enter Try.func69, Try.ntmps69
  go_wp2_with (go_in)
  go_ret
  exact ⟨by kernel_rfl, rfl⟩
set_option maxHeartbeats 1000000 in
theorem i_variables2 (A : Option Addr) (c : Nat) (w : World) :
    Calls Try.prog 69 #[.slice A 4 c] w fun e w' => e = .returned (.int .i64 2) ∧ w = w' := by
  go_enter Try.func69, Try.ntmps69
  go_wp2_with (go_in)
  go_ret
  exact ⟨by kernel_rfl, rfl⟩
set_option maxHeartbeats 1000000 in
theorem i_variables3 (A : Option Addr) (c : Nat) (w : World) :
    Calls Try.prog 69 #[.slice A 8 c] w fun e w' => e = .returned (.int .i64 3) ∧ w = w' := by
  go_enter Try.func69, Try.ntmps69
  go_wp2_with (go_in)
  go_ret
  exact ⟨by kernel_rfl, rfl⟩
theorem i_variables (A : Option Addr) (n c : Nat) (zs : List Int) (w : World) (hl : zs.length = n) (hb : cubeB zs = true) :
    Calls Try.prog 69 #[.slice A n c] w fun e w' => e = .returned (.int .i64 (bitsK n)) ∧ w = w' := by
  have := (cubeB_iff.1 hb).1
  rw [hl] at this
  rcases this with rfl | rfl | rfl
  · exact i_variables1 A c w
  · exact i_variables2 A c w
  · exact i_variables3 A c w
set_option maxHeartbeats 1000000 in
theorem i_fit (A : Option Addr) (n c : Nat) (zs : List Int) (A' : Option Addr) (n' c' : Nat) (xs : List Int) (w : World) (h : Rd w w.heap.size 1 A n (cI zs)) (h' : Rd w w.heap.size 1 A' n' (cI xs)) (hn : n ≤ 1048576) (hn' : n' ≤ 1048576) :
    Calls Try.prog 52 #[.slice A n c, .slice A' n' c'] w fun e w' => e = .returned (.bool (fitB zs xs)) ∧ w = w' := by
  have hlen : Hid (zs.length = n) := Lib.hid h.len
  have hlen' : Hid (xs.length = n') := Lib.hid h'.len
  have H := Lib.hid h
  have H' := Lib.hid h'
  clear h h'
  cases hb : cubeB zs
  · have HF : Hid (false = fitB zs xs) := Lib.hid (by unfold fitB; rw [hb]; rfl)
    go_enter Try.func52, Try.ntmps52
    go_wp2_with fail
    refine (i_corners_ok _ _ _ _ _ H.out hn).mono ?_
    rintro e w' ⟨rfl, rfl⟩
    rw [hb]
    go_wp2
    go_ret
    exact ⟨ret_bool HF.out, rfl⟩
  · have HF : Hid ((decide ((n' : Int) = (bitsK n : Int)) && numsB xs) = fitB zs xs) := Lib.hid (by
      have e : decide ((n' : Int) = (bitsK n : Int)) = decide (xs.length = bitsK zs.length) := by rw [hlen.out, hlen'.out]; simp; omega
      unfold fitB; rw [hb, e]; rfl)
    have HC := Lib.hid hb
    obtain ⟨B, hB⟩ : ∃ B, Hid (bitsK n = B) := ⟨_, Lib.hid rfl⟩
    have HV := fun W => Lib.hid (i_variables A n c zs W hlen.out HC.out)
    rw [hB.out] at HF
    obtain ⟨R, hR⟩ : ∃ R, Hid ((decide ((n' : Int) = (B : Int)) && numsB xs) = R) := ⟨_, Lib.hid rfl⟩
    rw [hR.out] at HF
    go_enter Try.func52, Try.ntmps52
    go_wp2_with fail
    refine (i_corners_ok _ _ _ _ _ H.out hn).mono ?_
    rintro e w' ⟨rfl, rfl⟩
    rw [hb]
    go_wp2_with fail
    refine (HV _).out.mono ?_
    rintro e w' ⟨rfl, rfl⟩
    rw [hB.out]
    go_wp2_with fail
    refine (i_manyNumbers A' n' c' xs B _ H'.out hn').mono ?_
    rintro e w' ⟨rfl, rfl⟩
    rw [hR.out]
    clear hR
    go_wp2
    go_ret
    exact ⟨ret_bool HF.out, rfl⟩
set_option maxHeartbeats 2000000 in
theorem s_l17Fold (A : Option Addr) (n c m : Nat) (zs : List Int) (t : Int) (w : World) (h : Rd w w.heap.size 1 A n (cI zs)) (hm : n = 2 * m) (hN : Nums zs) (hn : n ≤ 8) (t0 : 0 ≤ t) (t1 : t ≤ 112) :
    Calls Try.prog 55 #[.slice A n c, .int .i64 t] w fun e w' => ∃ A' c', e = .returned (.slice A' m c') ∧ OwIntS w' w.heap.size w'.heap.size (.slice A' m c') (foldL zs t m) ∧ Below w.heap.size w w' := by
  have HM := Lib.hid hm
  have H := Lib.hid h
  have HN := Lib.hid hN
  clear h hN hm
  have H0 : Hid ((w.alloc (.cells #[] 3)).ownsRow w.heap.size 3 1 (.slice (some ⟨w.heap.size, 0, none⟩) 0 0) 0 (cI (foldL zs t 0))) := Lib.hid (own_empty w _ 1)
  have HB0 : Hid (Below w.heap.size w (w.alloc (.cells #[] 3))) := Lib.hid ((Below.refl _ _).alloc (Nat.le_refl _) _)
  go_enter Try.func55, Try.ntmps55
  go_wp2
  go_loopw [5, 6] (fun out i wr => ∃ (k J : Nat) (Ao : Option Addr) (co : Nat), J ≤ n ∧ i = .int .i64 J ∧ out = .slice Ao k co ∧ Hid (J = 2 * k) ∧ Hid (wr.ownsRow w.heap.size 3 1 (.slice Ao k co) k (cI (foldL zs t k))) ∧ Hid (Below w.heap.size w wr)) (fun _ i _ => n - (intOf i).toNat)
  case atStart => exact ⟨0, 0, _, 0, Nat.zero_le _, rfl, rfl, Lib.hid rfl, H0, HB0⟩
  case round =>
    clear H0 HB0
    obtain ⟨k, J, Ao, co, hk, rfl, rfl, HJ, HO, HB⟩ := hrel
    by_cases hlt : J + 1 < n
    · obtain ⟨a, x, rfl, hab, hx0, HX⟩ := H.out.intAt (show J < n by omega)
      obtain ⟨a2, y, ea, _, hy0, HY⟩ := H.out.intAt hlt
      injection ea with ea
      subst ea
      rw [add_succ] at hy0
      have hx := (HB.out.cell (p := a.add J) (by rw [add_block]; exact hab)).trans hx0
      have hy := (HB.out.cell (p := ⟨a.block, a.off + (J + 1), none⟩) hab).trans hy0
      have HX0 := Lib.hid hx0
      have HY0 := Lib.hid hy0
      clear hx0 hy0
      have x0 : 0 ≤ x := by rw [HX.out]; exact (HN.out _).1
      have x1 : x ≤ 112 := by rw [HX.out]; exact (HN.out _).2
      have y0 : 0 ≤ y := by rw [HY.out]; exact (HN.out _).1
      have y1 : y ≤ 112 := by rw [HY.out]; exact (HN.out _).2
      obtain ⟨D, HD, d0, d1⟩ : ∃ D, Hid ((y - x) % 113 = D) ∧ 0 ≤ D ∧ D ≤ 112 := ⟨_, Lib.hid rfl, by omega, by omega⟩
      have HSUB := fun W => Lib.hid (s_l1Sub y x W y0 y1 x0 x1)
      rw [HD.out] at HSUB
      obtain ⟨m0, m1⟩ := mul_bd t D t0 t1 d0 d1
      have HE : Hid (foldL zs t (k + 1) = foldL zs t k ++ [(x + t * D) % 113]) := Lib.hid (by rw [foldL_succ, foldV, ← HJ.out, ← HX.out, ← HY.out, HD.out])
      have HJ2 : Hid (J + 2 = 2 * (k + 1)) := Lib.hid (by have := HJ.out; omega)
      have hks : k ≤ 1048576 := by have := HJ.out; omega
      have i0 : (0 : Int) ≤ (J : Int) := by omega
      have i1 : (J : Int) < (n : Int) := by omega
      have i2 : (0 : Int) ≤ (J : Int) + 1 := by omega
      have i3 : (J : Int) + 1 < (n : Int) := by omega
      have iw0 : IntKind.i64.wrap ((J : Int) + 1) = (J : Int) + 1 := IntWalk.i64_in _ (by omega)
      have it0 : ((J : Int) + 1).toNat = J + 1 := by omega
      have iw : IntKind.i64.wrap (t * D) = t * D := IntWalk.i64_in _ (by omega)
      have iw2 : IntKind.i64.wrap (x + t * D) = x + t * D := IntWalk.i64_in _ (by omega)
      have im : (x + t * D).tmod 113 = (x + t * D) % 113 := Int.tmod_eq_emod_of_nonneg (by omega)
      clear m0 m1 HX HY HD HJ
      go_wp2
      go_region_held3 (fun w' => w'.cell? (a.add J) = some (.int .i64 x) ∧ w'.cell? ⟨a.block, a.off + (J + 1), none⟩ = some (.int .i64 y)) (go_keep) (first
        | (go_at_call 84
           refine (HSUB _).out.mono ?_
           rintro e w' ⟨rfl, rfl⟩)
        | (refine step_int (w := w) (wr := wr) (p := (x + t * D) % 113) rfl (.tmp 15) (.tmp 34) rfl rfl rfl HO.out HB.out ?hW ?hl (by omega) ?_
           case hW => first | exact (Below.refl _ _).alloc (Nat.le_refl _) _ | exact below_drew ((Below.refl _ _).alloc (Nat.le_refl _) _) | exact (below_drew (Below.refl _ _)).alloc (Nat.le_refl _) _
           case hl => exact heap_alloc_new _ _
           intro A3 c3 w3 h6 h7
           have hx3 := (h7.out.cell (p := a.add J) (by rw [add_block]; exact hab)).trans HX0.out
           have hy3 := (h7.out.cell (p := ⟨a.block, a.off + (J + 1), none⟩) hab).trans HY0.out))
      all_goals (
        have HO2 : Hid (w3.ownsRow w.heap.size 3 1 (.slice A3 (k + 1) c3) (k + 1) (cI (foldL zs t (k + 1)))) := Lib.hid (by
          rw [HE.out]; exact h6.out)
        clear h6 hx3 hy3 iw im iw2 iw0 it0
        go_wp2
        go_roundw
        case rel => exact ⟨k + 1, J + 2, A3, c3, by omega, by go_num, rfl, HJ2, HO2, h7⟩
        case measure => simp [intOf] <;> omega)
    · have hkn : k = m := by have := HJ.out; have := HM.out; omega
      have HOF : Hid (OwIntS wr w.heap.size wr.heap.size (.slice Ao m co) (foldL zs t m)) := Lib.hid (by
        have := HO.out
        rw [hkn] at this
        obtain ⟨A, c, he, ho⟩ := own_fin2 this (by have := HM.out; omega)
        rw [he]; exact ho)
      subst hkn
      go_wp2
      go_ret
      exact ⟨_, _, rfl, HOF.out, HB.out⟩
/-- a list read: by its cells -/
theorem OwIntS.rd2 {w : World} {lo hi n c : Nat} {A : Option Addr} {d : List Int} (h : OwIntS w lo hi (.slice A n c) d) : Rd w hi 1 A n (cI d) := by
  obtain ⟨_, A1, n1, c1, e, r⟩ := h
  injection e with e1 e2 e3; subst e1; subst e2; subst e3
  exact r.rd
theorem len_half {zs xs : List Int} {b k : Nat} (hz : zs.length = 2 ^ b) (hx : xs.length = b) (hk : k < b) : (foldsL zs (xs.take k)).length = 2 * ((foldsL zs (xs.take k)).length / 2) ∧ (foldsL zs (xs.take k)).length ≤ zs.length ∧ (foldsL zs (xs.take (k + 1))).length = (foldsL zs (xs.take k)).length / 2 := by
  have h1 := foldsL_length zs (xs.take k) b hz (by rw [List.length_take]; omega)
  have h2 := foldsL_length zs (xs.take (k + 1)) b hz (by rw [List.length_take]; omega)
  rw [List.length_take, Nat.min_eq_left (by omega)] at h1 h2
  obtain ⟨q, hq⟩ : ∃ q, b - k = q + 1 := ⟨b - k - 1, by omega⟩
  rw [hq, Nat.pow_succ] at h1
  rw [show b - (k + 1) = q by omega] at h2
  have h3 : 2 ^ (q + 1) ≤ 2 ^ b := Nat.pow_le_pow_right (by omega) (by omega)
  rw [Nat.pow_succ] at h3
  exact ⟨by omega, by rw [hz]; omega, by omega⟩
set_option maxHeartbeats 2000000 in
theorem s_l17At (A : Option Addr) (n c : Nat) (zs : List Int) (A' : Option Addr) (n' c' : Nat) (xs : List Int) (w : World) (h : Rd w w.heap.size 1 A n (cI zs)) (h' : Rd w w.heap.size 1 A' n' (cI xs)) (hf : fitB zs xs = true) :
    Calls Try.prog 51 #[.slice A n c, .slice A' n' c'] w fun e w' => e = .returned (.int .i64 (cubeAtI zs xs)) ∧ Below w.heap.size w w' := by
  have hlen : Hid (zs.length = n) := Lib.hid h.len
  have hlen' : Hid (xs.length = n') := Lib.hid h'.len
  obtain ⟨hc, hx, hxn⟩ := fitB_iff.1 hf
  obtain ⟨c1, c2, c3⟩ := cube_bits hc
  have HZ2 := Lib.hid c1
  have HXL := Lib.hid hx
  have hn8 : n ≤ 8 := by have := (cubeB_iff.1 hc).1; rw [h.len] at this; omega
  have HN := Lib.hid (cubeB_nums hc)
  have HXN := Lib.hid (nums_of_B hxn)
  have hn' : n' ≤ 3 := by have := h'.len; omega
  have H := Lib.hid h
  have H' := Lib.hid h'
  clear h h' hf hc hx hxn c1 c2 c3
  go_enter Try.func51, Try.ntmps51
  go_wp2
  go_loopw [0, 5] (fun cu i wr => ∃ (k q cc : Nat) (Ac : Option Addr), k ≤ n' ∧ i = .int .i64 k ∧ cu = .slice Ac q cc ∧ q ≤ 8 ∧ Hid (Rd wr wr.heap.size 1 Ac q (cI (foldsL zs (xs.take k)))) ∧ Hid (Below w.heap.size w wr)) (fun _ i _ => n' - (intOf i).toNat)
  case atStart => exact ⟨0, n, c, A, Nat.zero_le _, rfl, rfl, hn8, H, Lib.hid (Below.refl _ _)⟩
  case round =>
    obtain ⟨k, q, cc, Ac, hk, rfl, rfl, hq8, HC, HB⟩ := hrel
    by_cases hlt : k < n'
    · obtain ⟨a, x, rfl, hab, hx0, HX⟩ := H'.out.intAt hlt
      have hx := (HB.out.cell (p := a.add k) (by rw [add_block]; exact hab)).trans hx0
      have x0 : 0 ≤ x := by rw [HX.out]; exact (HXN.out _).1
      have x1 : x ≤ 112 := by rw [HX.out]; exact (HXN.out _).2
      have HQL := HC.out.len
      have HLH := len_half (k := k) HZ2.out HXL.out (by have := HXL.out; have := hlen'.out; omega)
      have HST : Hid (foldsL zs (xs.take (k + 1)) = foldL (foldsL zs (xs.take k)) x (q / 2)) := Lib.hid (by rw [foldsL_take _ _ _ (by have := hlen'.out; omega), ← HX.out, HQL])
      have HNC : Hid (Nums (foldsL zs (xs.take k))) := Lib.hid (foldsL_nums HN.out _)
      rw [HQL] at HLH
      have HQ : Hid (q = 2 * (q / 2)) := Lib.hid HLH.1
      obtain ⟨q2, hq2⟩ : ∃ q2, Hid (q / 2 = q2) := ⟨_, Lib.hid rfl⟩
      rw [hq2.out] at HST HQ
      have hq28 : q2 ≤ 8 := by rw [← hq2.out]; omega
      clear HLH HQL HX hx0 hq2
      go_wp2_with fail
      refine (s_l17Fold Ac q cc q2 (foldsL zs (xs.take k)) x wr HC.out HQ.out HNC.out hq8 x0 x1).mono ?_
      rintro e w2 ⟨A2, c2, rfl, ho, hb⟩
      have HC2 : Hid (Rd w2 w2.heap.size 1 A2 q2 (cI (foldsL zs (xs.take (k + 1))))) := Lib.hid (by rw [HST.out]; exact ho.rd2)
      have HB2 : Hid (Below w.heap.size w w2) := Lib.hid (HB.out.trans (hb.mono HB.out.size))
      clear ho hb HC HB HST HQ HNC hx
      go_wp2
      go_roundw
      case rel => exact ⟨k + 1, q2, c2, A2, by omega, by go_num, rfl, hq28, HC2, HB2⟩
      case measure => simp [intOf] <;> omega
    · have HK : Hid (foldsL zs (xs.take k) = foldsL zs xs) := Lib.hid (by rw [List.take_of_length_le (by have := hlen'.out; omega)])
      have HQ1 : 0 < q := by
        have h1 := HC.out.len
        rw [HK.out, foldsL_length zs xs _ HZ2.out (by have := HXL.out; omega)] at h1
        rw [← h1]; exact Nat.pow_pos (by omega)
      rw [HK.out] at HC
      obtain ⟨a, x, rfl, hab, hx0, HX⟩ := HC.out.intAt HQ1
      rw [show a.add 0 = a by simp [Addr.add]] at hx0
      have HF : Hid (x = cubeAtI zs xs) := Lib.hid HX.out
      have i1 : (0 : Int) < (q : Int) := by omega
      clear HX HC HK
      go_wp2
      go_ret
      exact ⟨ret_i HF.out, HB.out⟩
def R_CubeAt_1 (d x : List Int) : Bool := fitB d x
def R_CubeAt_0 (d x : List Int) : Int := if fitB d x = true then cubeAtI d x else 0
theorem cubeAt_no {d x : List Int} (h : fitB d x = false) : Hid ((0 : Int) = R_CubeAt_0 d x ∧ false = R_CubeAt_1 d x) := Lib.hid ⟨by unfold R_CubeAt_0; rw [h]; rfl, h.symm⟩
set_option maxHeartbeats 2000000 in
theorem X_s_CubeAt (v v' : Value) (d x : List Int) (w : World) (h : RdIntS w w.heap.size v d) (h' : RdIntS w w.heap.size v' x) (hs : szIntS d ≤ 1048576) (hs' : szIntS x ≤ 1048576) :
    Calls Try.prog 19 #[v, v'] w fun e w' => e = .returned (.tuple #[.int .i64 (R_CubeAt_0 d x), .bool (R_CubeAt_1 d x)]) ∧ Below w.heap.size w w' := by
  obtain ⟨A, n, c, rfl, _, r⟩ := h
  obtain ⟨A', n', c', rfl, _, r'⟩ := h'
  have hn : n ≤ 1048576 := by have := r.len; unfold szIntS at hs; omega
  have hn' : n' ≤ 1048576 := by have := r'.len; unfold szIntS at hs'; omega
  have hl := Lib.hid r.len
  have hl' := Lib.hid r'.len
  have H := Lib.hid r
  have H' := Lib.hid r'
  clear r r' hs hs'
  cases hb : cubeB d
  · have HF := cubeAt_no (d := d) (x := x) (by unfold fitB; rw [hb]; rfl)
    go_enter Try.func19, Try.ntmps19
    go_wp2_with fail
    refine (s_CubeOk _ _ _ _ _ H.out hn).mono ?_
    rintro e w' ⟨rfl, rfl⟩
    rw [hb]
    go_wp2
    go_ret2
    exact ⟨ret_tib HF.out.1 HF.out.2, Below.refl _ _⟩
  · have HV := fun W => Lib.hid (s_l17Bits A n c d W hl.out hb)
    obtain ⟨B, hB⟩ : ∃ B, Hid (bitsK n = B) := ⟨_, Lib.hid rfl⟩
    rw [hB.out] at HV
    by_cases hnb : n' = B
    · have e1 : (n' : Int) = (B : Int) := by omega
      have e2 : ((n' : Int) != (B : Int)) = false := by simp [e1]
      cases hx : numsB x
      · have HF := cubeAt_no (d := d) (x := x) (by unfold fitB; rw [hb, hx]; simp)
        clear hnb e1
        go_enter Try.func19, Try.ntmps19
        go_wp2_with fail
        refine (s_CubeOk _ _ _ _ _ H.out hn).mono ?_
        rintro e w' ⟨rfl, rfl⟩
        rw [hb]
        go_wp2_with fail
        refine (HV _).out.mono ?_
        rintro e w' ⟨rfl, rfl⟩
        go_wp2_with fail
        refine (s_l1In _ _ _ _ _ H'.out hn').mono ?_
        rintro e w' ⟨rfl, rfl⟩
        rw [hx]
        go_wp2
        go_ret2
        exact ⟨ret_tib HF.out.1 HF.out.2, Below.refl _ _⟩
      · have hfit : fitB d x = true := fitB_iff.2 ⟨hb, by rw [hl.out, hl'.out, hB.out, hnb], hx⟩
        have HF : Hid (cubeAtI d x = R_CubeAt_0 d x ∧ true = R_CubeAt_1 d x) := Lib.hid ⟨by unfold R_CubeAt_0; rw [if_pos hfit], hfit.symm⟩
        have HFIT := Lib.hid hfit
        clear hnb e1 hfit
        go_enter Try.func19, Try.ntmps19
        go_wp2_with fail
        refine (s_CubeOk _ _ _ _ _ H.out hn).mono ?_
        rintro e w' ⟨rfl, rfl⟩
        rw [hb]
        go_wp2_with fail
        refine (HV _).out.mono ?_
        rintro e w' ⟨rfl, rfl⟩
        go_wp2_with fail
        refine (s_l1In _ _ _ _ _ H'.out hn').mono ?_
        rintro e w' ⟨rfl, rfl⟩
        rw [hx]
        go_wp2_with fail
        refine (s_l17At A n c d A' n' c' x _ H.out H'.out HFIT.out).mono ?_
        rintro e w2 ⟨rfl, hb2⟩
        have HB2 := Lib.hid hb2
        clear hb2
        go_wp2
        go_ret2
        exact ⟨ret_tib HF.out.1 HF.out.2, HB2.out⟩
    · have HF := cubeAt_no (d := d) (x := x) (by unfold fitB; rw [hl.out, hl'.out, hB.out]; simp [hnb])
      have e1 : ¬ (n' : Int) = (B : Int) := by omega
      have e2 : ((n' : Int) != (B : Int)) = true := by rw [bne_iff_ne]; exact e1
      clear hnb
      go_enter Try.func19, Try.ntmps19
      go_wp2_with fail
      refine (s_CubeOk _ _ _ _ _ H.out hn).mono ?_
      rintro e w' ⟨rfl, rfl⟩
      rw [hb]
      go_wp2_with fail
      refine (HV _).out.mono ?_
      rintro e w' ⟨rfl, rfl⟩
      go_wp2
      go_ret2
      exact ⟨ret_tib HF.out.1 HF.out.2, Below.refl _ _⟩
end Go.Proofs.Ytaiilopfdjbceaa

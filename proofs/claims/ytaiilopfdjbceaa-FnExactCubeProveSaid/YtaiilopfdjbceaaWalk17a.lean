/- Chapter 17: cubes: which are good, their sums, what is told; lines. Made by tools/gen17/a.py. -/
import Derived.Test.YtaiilopfdjbceaaMath23
import Derived.Test.YtaiilopfdjbceaaSum
import Derived.Test.YtaiilopfdjbceaaMany
import Derived.Test.YtaiilopfdjbceaaResPt
import Derived.BigQuiet
import Derived.Deep.QuietTactic
namespace Go.Proofs.Ytaiilopfdjbceaa
open Go.RowKit
set_option maxRecDepth 100000

theorem add_succ (a : Addr) (j : Nat) : a.add (j + 1) = ⟨a.block, a.off + (j + 1), none⟩ := by unfold Addr.add; rw [if_neg (by omega)]
set_option maxHeartbeats 1000000 in
theorem s_CubeOk (A : Option Addr) (n c : Nat) (zs : List Int) (w : World) (h : Rd w w.heap.size 1 A n (cI zs)) (hn : n ≤ 1048576) :
    Calls Try.prog 13 #[.slice A n c] w fun e w' => e = .returned (.bool (cubeB zs)) ∧ w = w' := by
  have hlen : Hid (zs.length = n) := Lib.hid h.len
  have H := Lib.hid h
  clear h
  by_cases h8 : n = 2 ∨ n = 4 ∨ n = 8
  · have HF : Hid (numsB zs = cubeB zs) := Lib.hid (by unfold cubeB; rw [hlen.out]; rcases h8 with e | e | e <;> simp [e])
    by_cases h2 : n = 2
    · have e2 : ((n : Int) == 2) = true := by rw [beq_iff_eq]; omega
      have e2' : (n : Int) = 2 := by omega
      clear h8 h2
      go_enter Try.func13, Try.ntmps13
      go_wp2_with fail
      refine (s_l1In _ _ _ _ _ H.out hn).mono ?_
      rintro e w' ⟨rfl, rfl⟩
      go_wp2
      go_ret
      exact ⟨ret_bool HF.out, rfl⟩
    · by_cases h4 : n = 4
      · have e2 : ((n : Int) == 2) = false := by rw [beq_eq_false_iff_ne]; omega
        have e2' : ¬ (n : Int) = 2 := by omega
        have e4 : ((n : Int) == 4) = true := by rw [beq_iff_eq]; omega
        have e4' : (n : Int) = 4 := by omega
        clear h8 h2 h4
        go_enter Try.func13, Try.ntmps13
        go_wp2_with fail
        refine (s_l1In _ _ _ _ _ H.out hn).mono ?_
        rintro e w' ⟨rfl, rfl⟩
        go_wp2
        go_ret
        exact ⟨ret_bool HF.out, rfl⟩
      · have e2 : ((n : Int) == 2) = false := by rw [beq_eq_false_iff_ne]; omega
        have e2' : ¬ (n : Int) = 2 := by omega
        have e4 : ((n : Int) == 4) = false := by rw [beq_eq_false_iff_ne]; omega
        have e4' : ¬ (n : Int) = 4 := by omega
        have e8 : ((n : Int) == 8) = true := by rw [beq_iff_eq]; omega
        have e8' : (n : Int) = 8 := by omega
        clear h8 h2 h4
        go_enter Try.func13, Try.ntmps13
        go_wp2_with fail
        refine (s_l1In _ _ _ _ _ H.out hn).mono ?_
        rintro e w' ⟨rfl, rfl⟩
        go_wp2
        go_ret
        exact ⟨ret_bool HF.out, rfl⟩
  · have HF : Hid (false = cubeB zs) := Lib.hid (by unfold cubeB; rw [hlen.out]; simp; omega)
    have e2 : ((n : Int) == 2) = false := by rw [beq_eq_false_iff_ne]; omega
    have e2' : ¬ (n : Int) = 2 := by omega
    have e4 : ((n : Int) == 4) = false := by rw [beq_eq_false_iff_ne]; omega
    have e4' : ¬ (n : Int) = 4 := by omega
    have e8 : ((n : Int) == 8) = false := by rw [beq_eq_false_iff_ne]; omega
    have e8' : ¬ (n : Int) = 8 := by omega
    clear h8
    go_enter Try.func13, Try.ntmps13
    go_wp2
    go_ret
    exact ⟨ret_bool HF.out, rfl⟩
set_option maxHeartbeats 1000000 in
theorem i_corners_ok (A : Option Addr) (n c : Nat) (zs : List Int) (w : World) (h : Rd w w.heap.size 1 A n (cI zs)) (hn : n ≤ 1048576) :
    Calls Try.prog 46 #[.slice A n c] w fun e w' => e = .returned (.bool (cubeB zs)) ∧ w = w' := by
  have hlen : Hid (zs.length = n) := Lib.hid h.len
  have H := Lib.hid h
  clear h
  by_cases h8 : n = 2 ∨ n = 4 ∨ n = 8
  · have HF : Hid (numsB zs = cubeB zs) := Lib.hid (by unfold cubeB; rw [hlen.out]; rcases h8 with e | e | e <;> simp [e])
    by_cases h2 : n = 2
    · have e2 : ((n : Int) == 2) = true := by rw [beq_iff_eq]; omega
      have e2' : (n : Int) = 2 := by omega
      clear h8 h2
      go_enter Try.func46, Try.ntmps46
      go_wp2_with fail
      refine (i_numbersOk _ _ _ _ _ H.out hn).mono ?_
      rintro e w' ⟨rfl, rfl⟩
      go_wp2
      go_ret
      exact ⟨ret_bool HF.out, rfl⟩
    · by_cases h4 : n = 4
      · have e2 : ((n : Int) == 2) = false := by rw [beq_eq_false_iff_ne]; omega
        have e2' : ¬ (n : Int) = 2 := by omega
        have e4 : ((n : Int) == 4) = true := by rw [beq_iff_eq]; omega
        have e4' : (n : Int) = 4 := by omega
        clear h8 h2 h4
        go_enter Try.func46, Try.ntmps46
        go_wp2_with fail
        refine (i_numbersOk _ _ _ _ _ H.out hn).mono ?_
        rintro e w' ⟨rfl, rfl⟩
        go_wp2
        go_ret
        exact ⟨ret_bool HF.out, rfl⟩
      · have e2 : ((n : Int) == 2) = false := by rw [beq_eq_false_iff_ne]; omega
        have e2' : ¬ (n : Int) = 2 := by omega
        have e4 : ((n : Int) == 4) = false := by rw [beq_eq_false_iff_ne]; omega
        have e4' : ¬ (n : Int) = 4 := by omega
        have e8 : ((n : Int) == 8) = true := by rw [beq_iff_eq]; omega
        have e8' : (n : Int) = 8 := by omega
        clear h8 h2 h4
        go_enter Try.func46, Try.ntmps46
        go_wp2_with fail
        refine (i_numbersOk _ _ _ _ _ H.out hn).mono ?_
        rintro e w' ⟨rfl, rfl⟩
        go_wp2
        go_ret
        exact ⟨ret_bool HF.out, rfl⟩
  · have HF : Hid (false = cubeB zs) := Lib.hid (by unfold cubeB; rw [hlen.out]; simp; omega)
    have e2 : ((n : Int) == 2) = false := by rw [beq_eq_false_iff_ne]; omega
    have e2' : ¬ (n : Int) = 2 := by omega
    have e4 : ((n : Int) == 4) = false := by rw [beq_eq_false_iff_ne]; omega
    have e4' : ¬ (n : Int) = 4 := by omega
    have e8 : ((n : Int) == 8) = false := by rw [beq_eq_false_iff_ne]; omega
    have e8' : ¬ (n : Int) = 8 := by omega
    clear h8
    go_enter Try.func46, Try.ntmps46
    go_wp2
    go_ret
    exact ⟨ret_bool HF.out, rfl⟩
set_option maxHeartbeats 400000 in
theorem i_CubeOk (A : Option Addr) (n c : Nat) (zs : List Int) (w : World) (h : Rd w w.heap.size 1 A n (cI zs)) (hn : n ≤ 1048576) :
    Calls Try.prog 15 #[.slice A n c] w fun e w' => e = .returned (.bool (cubeB zs)) ∧ w = w' := by
  have H := Lib.hid h
  clear h
  go_enter Try.func15, Try.ntmps15
  go_wp2_with fail
  refine (i_corners_ok _ _ _ _ _ H.out hn).mono ?_
  rintro e w' ⟨rfl, rfl⟩
  go_wp2
  go_ret
  exact ⟨rfl, rfl⟩
/-- its sum -/
def R_CubeSum (d : List Int) : Int := if cubeB d = true then sumI d else -1
theorem X_s_CubeSum (v : Value) (d : List Int) (w : World) (h : RdIntS w w.heap.size v d) (hs : szIntS d ≤ 1048576) :
    Calls Try.prog 17 #[v] w fun e w' => e = .returned (.int .i64 (R_CubeSum d)) ∧ Below w.heap.size w w' := by
  obtain ⟨A, n, c, rfl, _, r⟩ := h
  have hn : n ≤ 1048576 := by have := r.len; unfold szIntS at hs; omega
  have H := Lib.hid r
  clear r hs
  cases hb : cubeB d
  · have HF : Hid (-1 = R_CubeSum d) := Lib.hid (by unfold R_CubeSum; rw [hb]; rfl)
    go_enter Try.func17, Try.ntmps17
    go_wp2_with fail
    refine (s_CubeOk _ _ _ _ _ H.out hn).mono ?_
    rintro e w' ⟨rfl, rfl⟩
    rw [hb]
    go_wp2
    go_ret
    exact ⟨ret_i HF.out, Below.refl _ _⟩
  · have HF : Hid (sumI d = R_CubeSum d) := Lib.hid (by unfold R_CubeSum; rw [hb]; rfl)
    have HN := Lib.hid (cubeB_nums hb)
    go_enter Try.func17, Try.ntmps17
    go_wp2_with fail
    refine (s_CubeOk _ _ _ _ _ H.out hn).mono ?_
    rintro e w' ⟨rfl, rfl⟩
    rw [hb]
    go_wp2_with fail
    refine (s_l10Sum _ _ _ _ _ H.out HN.out hn).mono ?_
    rintro e w' ⟨rfl, rfl⟩
    go_wp2
    go_ret
    exact ⟨ret_i HF.out, Below.refl _ _⟩
set_option maxHeartbeats 1000000 in
theorem i_ends (A : Option Addr) (n c m : Nat) (zs : List Int) (w : World) (h : Rd w w.heap.size 1 A n (cI zs)) (hm : n = 2 * m) (hN : Nums zs) (hn : n ≤ 8) :
    Calls Try.prog 48 #[.slice A n c] w fun e w' => e = .returned (.agg #[.int .i64 (evK zs m), .int .i64 (odK zs m)]) ∧ Below w.heap.size w w' := by
  have HM := Lib.hid hm
  obtain ⟨W0, hW0⟩ : ∃ W, Hid (w.alloc (.cells #[.int .i64 0, .int .i64 0] 44) = W) := ⟨_, Lib.hid rfl⟩
  have HB : Hid (Below w.heap.size w W0) := Lib.hid (by rw [← hW0.out]; exact (Below.refl _ _).alloc (Nat.le_refl _) _)
  have HX_R : Hid (Bx W0 w.heap.size #[.int .i64 0, .int .i64 0] 44) := Lib.hid (by rw [← hW0.out]; exact Bx.new _ _ _)
  have H := Lib.hid (h.below HB.out)
  have HN := Lib.hid hN
  clear h hN hm
  go_enter Try.func48, Try.ntmps48
  go_wp2
  rw [hW0.out]
  clear hW0
  go_loop [3, 4, 5] (fun px py i => ∃ (k J : Nat) (x y : Int), J ≤ n ∧ i = .int .i64 J ∧ px = .int .i64 x ∧ py = .int .i64 y ∧ 0 ≤ x ∧ x ≤ 112 ∧ 0 ≤ y ∧ y ≤ 112 ∧ Hid (J = 2 * k) ∧ Hid (x = evK zs k) ∧ Hid (y = odK zs k)) (fun _ _ i => n - (intOf i).toNat)
  case atStart => exact ⟨0, 0, 0, 0, by omega, rfl, rfl, rfl, by omega, by omega, by omega, by omega, Lib.hid rfl, Lib.hid rfl, Lib.hid rfl⟩
  case round =>
    obtain ⟨k, J, x, y, hk, rfl, rfl, rfl, x0, x1, y0, y1, HJ, HEx, HEy⟩ := hrel
    by_cases hlt : J < n
    · have hlt2 : J + 1 < n := by have := HM.out; have := HJ.out; omega
      obtain ⟨a, z, rfl, hab, hc0, HZ⟩ := H.out.intAt hlt
      obtain ⟨a2, z2, ea, _, hc1, HZ2⟩ := H.out.intAt hlt2
      injection ea with ea
      subst ea
      rw [add_succ] at hc1
      have z0 : 0 ≤ z := by rw [HZ.out]; exact (HN.out _).1
      have z1 : z ≤ 112 := by rw [HZ.out]; exact (HN.out _).2
      have u0 : 0 ≤ z2 := by rw [HZ2.out]; exact (HN.out _).1
      have u1 : z2 ≤ 112 := by rw [HZ2.out]; exact (HN.out _).2
      have HEx2 : Hid ((x + z) % 113 = evK zs (k + 1)) := Lib.hid (by rw [evK, ← HEx.out, HZ.out, HJ.out])
      have HEy2 : Hid ((y + z2) % 113 = odK zs (k + 1)) := Lib.hid (by rw [odK, ← HEy.out, HZ2.out, HJ.out])
      have HJ2 : Hid (J + 2 = 2 * (k + 1)) := Lib.hid (by have := HJ.out; omega)
      clear HEx HEy HZ HZ2 HJ
      go_wp2_with fail
      refine (i_plus x z _ x0 x1 z0 z1).mono ?_
      rintro e w' ⟨rfl, rfl⟩
      go_wp2_with fail
      refine (i_plus y z2 _ y0 y1 u0 u1).mono ?_
      rintro e w' ⟨rfl, rfl⟩
      go_wp2
      go_round
      case rel => exact ⟨k + 1, J + 2, _, _, by omega, by go_num, rfl, rfl, by omega, by omega, by omega, by omega, HJ2, HEx2, HEy2⟩
      case measure => simp [intOf] <;> omega
    · have HE : Hid (x = evK zs m ∧ y = odK zs m) := Lib.hid (by have := HM.out; have := HJ.out; rw [HEx.out, HEy.out, show k = m by omega]; exact ⟨rfl, rfl⟩)
      have hf0 := HX_R.out.free 0
      have hf1 := HX_R.out.free 1
      have hc0 : W0.cell? ⟨w.heap.size, 0, none⟩ = some (.int .i64 0) := HX_R.out.cell 0
      have hc1 : W0.cell? ⟨w.heap.size, 1, none⟩ = some (.int .i64 0) := HX_R.out.cell 1
      clear HEx HEy
      go_wp2
      exact bodyPost_ret (v := .agg #[.int .i64 x, .int .i64 y]) (resPt1 rfl rfl ((HX_R.out.set 0 _).set 1 _)) rfl ⟨by rw [← HE.out.1, ← HE.out.2], (HB.out.setCell (p := ⟨w.heap.size, 0, none⟩) (Nat.le_refl _) _).setCell (p := ⟨w.heap.size, 1, none⟩) (Nat.le_refl _) _⟩
set_option maxHeartbeats 1000000 in
theorem i_Point_sum (x y : Int) (w : World) (x0 : 0 ≤ x) (x1 : x ≤ 112) (y0 : 0 ≤ y) (y1 : y ≤ 112) :
    Calls Try.prog 49 #[.agg #[.int .i64 x, .int .i64 y]] w fun e w' => e = .returned (.int .i64 ((x + y) % 113)) ∧ Below w.heap.size w w' := by
  go_enter Try.func49, Try.ntmps49
  go_wp2_with fail
  refine (i_plus x y _ x0 x1 y0 y1).mono ?_
  rintro e w' ⟨rfl, rfl⟩
  go_wp2
  go_ret
  exact ⟨rfl, (Below.refl _ _).alloc (Nat.le_refl _) _⟩

set_option maxHeartbeats 1000000 in
theorem X_i_CubeSum (v : Value) (d : List Int) (w : World) (h : RdIntS w w.heap.size v d) (hs : szIntS d ≤ 1048576) :
    Calls Try.prog 18 #[v] w fun e w' => e = .returned (.int .i64 (R_CubeSum d)) ∧ Below w.heap.size w w' := by
  obtain ⟨A, n, c, rfl, _, r⟩ := h
  have hn : n ≤ 1048576 := by have := r.len; unfold szIntS at hs; omega
  have hl := Lib.hid r.len
  have H := Lib.hid r
  clear r hs
  cases hb : cubeB d
  · have HF : Hid (-1 = R_CubeSum d) := Lib.hid (by unfold R_CubeSum; rw [hb]; rfl)
    go_enter Try.func18, Try.ntmps18
    go_wp2_with fail
    refine (i_CubeOk _ _ _ _ _ H.out hn).mono ?_
    rintro e w' ⟨rfl, rfl⟩
    rw [hb]
    go_wp2
    go_ret
    exact ⟨ret_i HF.out, Below.refl _ _⟩
  · have hbb := (cubeB_iff.1 hb).1
    rw [hl.out] at hbb
    obtain ⟨m, HM, hm8⟩ : ∃ m, Hid (n = 2 * m) ∧ n ≤ 8 := ⟨n / 2, Lib.hid (by omega), by omega⟩
    clear hbb
    have HF : Hid ((evK d m + odK d m) % 113 = R_CubeSum d) := Lib.hid (by unfold R_CubeSum; rw [if_pos hb, ev_od, ← HM.out, sumI, hl.out])
    have HN := Lib.hid (cubeB_nums hb)
    obtain ⟨x0, x1⟩ := evK_bd d m
    obtain ⟨y0, y1⟩ := odK_bd d m
    obtain ⟨x, hx⟩ : ∃ x, Hid (evK d m = x) := ⟨_, Lib.hid rfl⟩
    obtain ⟨y, hy⟩ : ∃ y, Hid (odK d m = y) := ⟨_, Lib.hid rfl⟩
    rw [hx.out] at HF x0 x1
    rw [hy.out] at HF y0 y1
    go_enter Try.func18, Try.ntmps18
    go_wp2_with fail
    refine (i_CubeOk _ _ _ _ _ H.out hn).mono ?_
    rintro e w' ⟨rfl, rfl⟩
    rw [hb]
    go_wp2_with fail
    refine (i_ends A n c m d _ H.out HM.out HN.out hm8).mono ?_
    rintro e w1 ⟨rfl, hb1⟩
    rw [hx.out, hy.out]
    have HB1 := Lib.hid hb1
    clear hb1
    go_wp2_with fail
    refine (i_Point_sum x y _ x0 x1 y0 y1).mono ?_
    rintro e w2 ⟨rfl, hb2⟩
    have HB2 : Hid (Below w.heap.size w w2) := Lib.hid (HB1.out.trans (hb2.mono HB1.out.size))
    clear hb2
    go_wp2
    go_ret
    exact ⟨ret_i HF.out, HB2.out⟩
set_option maxHeartbeats 2000000 in
theorem s_l17Round (A : Option Addr) (n c m : Nat) (zs : List Int) (w : World) (h : Rd w w.heap.size 1 A n (cI zs)) (hm : n = 2 * m) (hN : Nums zs) (hn : n ≤ 8) :
    Calls Try.prog 54 #[.slice A n c] w fun e w' => e = .returned (.agg #[.int .i64 (evK zs m), .int .i64 (odK zs m)]) ∧ Below w.heap.size w w' := by
  have HM := Lib.hid hm
  obtain ⟨W0, hW0⟩ : ∃ W, Hid ((w.alloc (.cells #[.int .i64 0, .int .i64 0] 44)).alloc (.cells #[.int .i64 0, .int .i64 0] 44) = W) := ⟨_, Lib.hid rfl⟩
  have HB : Hid (Below w.heap.size w W0) := Lib.hid (by rw [← hW0.out]; exact ((Below.refl _ _).alloc (Nat.le_refl _) _).alloc (by simp only [World.size_alloc]; omega) _)
  have HX_R : Hid (Bx W0 w.heap.size #[.int .i64 0, .int .i64 0] 44) := Lib.hid (by rw [← hW0.out]; exact (Bx.new _ _ _).alloc _)
  have HX_p : Hid (Bx W0 (w.heap.size + 1) #[.int .i64 0, .int .i64 0] 44) := Lib.hid (by rw [← hW0.out]; have := Bx.new (w.alloc (.cells #[.int .i64 0, .int .i64 0] 44)) #[.int .i64 0, .int .i64 0] 44; simp only [World.size_alloc] at this; exact this)
  have H := Lib.hid h
  have HN := Lib.hid hN
  clear h hN hm
  go_enter Try.func54, Try.ntmps54
  go_wp2
  rw [hW0.out]
  clear hW0
  go_loopw [4] (fun i wr => ∃ (k J : Nat) (x y : Int), J ≤ n ∧ i = .int .i64 J ∧ 0 ≤ x ∧ x ≤ 112 ∧ 0 ≤ y ∧ y ≤ 112 ∧ Hid (J = 2 * k) ∧ Hid (x = evK zs k) ∧ Hid (y = odK zs k) ∧ Hid (Bx wr w.heap.size #[.int .i64 0, .int .i64 0] 44) ∧ Hid (Bx wr (w.heap.size + 1) #[.int .i64 x, .int .i64 y] 44) ∧ Hid (Below w.heap.size w wr)) (fun i _ => n - (intOf i).toNat)
  case atStart => exact ⟨0, 0, 0, 0, by omega, rfl, by omega, by omega, by omega, by omega, Lib.hid rfl, Lib.hid rfl, Lib.hid rfl, HX_R, HX_p, HB⟩
  case round =>
    clear HX_R HX_p HB
    obtain ⟨k, J, x, y, hk, rfl, x0, x1, y0, y1, HJ, HEx, HEy, HX_R, HX_p, HB⟩ := hrel
    by_cases hlt : J + 1 < n
    · obtain ⟨a, z, rfl, hab, hc0', HZ⟩ := H.out.intAt (show J < n by omega)
      obtain ⟨a2, z2, ea, _, hc1', HZ2⟩ := H.out.intAt hlt
      injection ea with ea
      subst ea
      have hc0 := (HB.out.cell (p := a.add J) (by rw [add_block]; exact hab)).trans hc0'
      have z0 : 0 ≤ z := by rw [HZ.out]; exact (HN.out _).1
      have z1 : z ≤ 112 := by rw [HZ.out]; exact (HN.out _).2
      have u0 : 0 ≤ z2 := by rw [HZ2.out]; exact (HN.out _).1
      have u1 : z2 ≤ 112 := by rw [HZ2.out]; exact (HN.out _).2
      have HEx2 : Hid ((x + z) % 113 = evK zs (k + 1)) := Lib.hid (by rw [evK, ← HEx.out, HZ.out, HJ.out])
      have HEy2 : Hid ((y + z2) % 113 = odK zs (k + 1)) := Lib.hid (by rw [odK, ← HEy.out, HZ2.out, HJ.out])
      have HJ2 : Hid (J + 2 = 2 * (k + 1)) := Lib.hid (by have := HJ.out; omega)
      have HC1 := Lib.hid hc1'
      clear HEx HEy HZ HZ2 HJ hc0' hc1'
      have px0 : wr.cell? ⟨w.heap.size + 1, 0, none⟩ = some (.int .i64 x) := HX_p.out.cell 0
      have i0 : (0 : Int) ≤ (J : Int) := by omega
      have i1 : (J : Int) < (n : Int) := by omega
      have e1 : IntKind.i64.wrap (x + z) = x + z := IntWalk.i64_in _ (by omega)
      have e2 : (x + z).tmod 113 = (x + z) % 113 := Int.tmod_eq_emod_of_nonneg (by omega)
      have e3 : IntKind.i64.wrap ((x + z) % 113) = (x + z) % 113 := IntWalk.i64_in _ (by omega)
      go_wp2
      have e4 : IntKind.i64.wrap (y + z2) = y + z2 := IntWalk.i64_in _ (by omega)
      have e5 : (y + z2).tmod 113 = (y + z2) % 113 := Int.tmod_eq_emod_of_nonneg (by omega)
      have e6 : IntKind.i64.wrap ((y + z2) % 113) = (y + z2) % 113 := IntWalk.i64_in _ (by omega)
      have i2 : (0 : Int) ≤ (J : Int) + 1 := by omega
      have i3 : (J : Int) + 1 < (n : Int) := by omega
      have iw : IntKind.i64.wrap ((J : Int) + 1) = (J : Int) + 1 := IntWalk.i64_in _ (by omega)
      have it : ((J : Int) + 1).toNat = J + 1 := by omega
      go_still_tail 8, (by kernel_rfl)
      change wpList _ _ _ _ _ wr.drew
      obtain ⟨d1, hd1⟩ : ∃ W, Hid (wr.drew = W) := ⟨_, Lib.hid rfl⟩
      rw [hd1.out]
      have HBd : Hid (Below wr.heap.size wr d1) := Lib.hid (by rw [← hd1.out]; exact (Below.refl _ _).drew)
      have hkd : Kept (w.heap.size + 1) (w.heap.size + 2) wr d1 := by rw [← hd1.out]; exact (Kept.refl _ _ _).drew
      have HXpd : Hid (Bx d1 (w.heap.size + 1) #[.int .i64 x, .int .i64 y] 44) := Lib.hid (by rw [← hd1.out]; exact HX_p.out)
      clear hd1
      have cx : d1.cell? ⟨w.heap.size + 1, 0, none⟩ = some (.int .i64 x) := HXpd.out.cell 0
      have fx : d1.frozen? ⟨w.heap.size + 1, 0, none⟩ = false := HXpd.out.free 0
      obtain ⟨v1, hv1⟩ : ∃ W, Hid (d1.setCell ⟨w.heap.size + 1, 0, none⟩ (.int .i64 ((x + z) % 113)) = W) := ⟨_, Lib.hid rfl⟩
      have hk1 : Kept (w.heap.size + 1) (w.heap.size + 2) wr v1 := by rw [← hv1.out]; exact hkd.setCell (p := ⟨w.heap.size + 1, 0, none⟩) (Nat.le_refl _) (by simp) _
      have HXp1 : Hid (Bx v1 (w.heap.size + 1) #[.int .i64 ((x + z) % 113), .int .i64 y] 44) := Lib.hid (by have h0 : Bx d1 (w.heap.size + 1) #[.int .i64 x, .int .i64 y] 44 := HXpd.out; have := h0.set 0 (.int .i64 ((x + z) % 113)); rw [hv1.out] at this; exact this)
      have HXR1 := Lib.hid (HX_R.out.kept hk1 (.inl (by omega)))
      have HB1 : Hid (Below w.heap.size w v1) := Lib.hid (HB.out.trans ((hk1.to_below (by have := HX_p.out.lt; omega)).mono (by omega)))
      go_wp2
      rw [hv1.out]
      have hc1 := (HB1.out.cell (p := a.add (J + 1)) (by rw [add_block]; exact hab)).trans HC1.out
      rw [add_succ] at hc1
      have py0 : v1.cell? ⟨w.heap.size + 1, 1, none⟩ = some (.int .i64 y) := HXp1.out.cell 1
      have zp1 := HXp1.out.lt
      clear hk1 hv1 cx fx HX_p HX_R HB px0 hc0 HC1
      go_still_tail 9, (by kernel_rfl)
      change wpList _ _ _ _ _ v1.drew
      obtain ⟨d2, hd2⟩ : ∃ W, Hid (v1.drew = W) := ⟨_, Lib.hid rfl⟩
      rw [hd2.out]
      have HBd : Hid (Below v1.heap.size v1 d2) := Lib.hid (by rw [← hd2.out]; exact (Below.refl _ _).drew)
      have hkd : Kept (w.heap.size + 1) (w.heap.size + 2) v1 d2 := by rw [← hd2.out]; exact (Kept.refl _ _ _).drew
      have HXpd : Hid (Bx d2 (w.heap.size + 1) #[.int .i64 ((x + z) % 113), .int .i64 y] 44) := Lib.hid (by rw [← hd2.out]; exact HXp1.out)
      clear hd2
      have cx : d2.cell? ⟨w.heap.size + 1, 1, none⟩ = some (.int .i64 y) := HXpd.out.cell 1
      have fx : d2.frozen? ⟨w.heap.size + 1, 1, none⟩ = false := HXpd.out.free 1
      obtain ⟨v2, hv2⟩ : ∃ W, Hid (d2.setCell ⟨w.heap.size + 1, 1, none⟩ (.int .i64 ((y + z2) % 113)) = W) := ⟨_, Lib.hid rfl⟩
      have hk2 : Kept (w.heap.size + 1) (w.heap.size + 2) v1 v2 := by rw [← hv2.out]; exact hkd.setCell (p := ⟨w.heap.size + 1, 1, none⟩) (Nat.le_refl _) (by simp) _
      have HXp2 : Hid (Bx v2 (w.heap.size + 1) #[.int .i64 ((x + z) % 113), .int .i64 ((y + z2) % 113)] 44) := Lib.hid (by have h0 : Bx d2 (w.heap.size + 1) #[.int .i64 ((x + z) % 113), .int .i64 y] 44 := HXpd.out; have := h0.set 1 (.int .i64 ((y + z2) % 113)); rw [hv2.out] at this; exact this)
      have HXR2 := Lib.hid (HXR1.out.kept hk2 (.inl (by omega)))
      have HB2 : Hid (Below w.heap.size w v2) := Lib.hid (HB1.out.trans ((hk2.to_below (by omega)).mono (by omega)))
      go_wp2
      rw [hv2.out]
      clear hk2 hv2 cx fx HXp1 HXR1 HB1 py0 hc1
      go_roundw
      case rel => exact ⟨k + 1, J + 2, _, _, by omega, by go_num, by omega, by omega, by omega, by omega, HJ2, HEx2, HEy2, HXR2, HXp2, HB2⟩
      case measure => simp [intOf] <;> omega
    · have HE : Hid (x = evK zs m ∧ y = odK zs m) := Lib.hid (by have := HM.out; have := HJ.out; rw [HEx.out, HEy.out, show k = m by omega]; exact ⟨rfl, rfl⟩)
      have hf0 := HX_R.out.free 0
      have hf1 := HX_R.out.free 1
      have hr0 : wr.cell? ⟨w.heap.size, 0, none⟩ = some (.int .i64 0) := HX_R.out.cell 0
      have hr1 : wr.cell? ⟨w.heap.size, 1, none⟩ = some (.int .i64 0) := HX_R.out.cell 1
      have hc0 : wr.cell? ⟨w.heap.size + 1, 0, none⟩ = some (.int .i64 x) := HX_p.out.cell 0
      have hc1 : wr.cell? ⟨w.heap.size + 1, 1, none⟩ = some (.int .i64 y) := HX_p.out.cell 1
      clear HEx HEy
      go_wp2
      exact bodyPost_ret (v := .agg #[.int .i64 x, .int .i64 y]) (resPt1 rfl rfl ((HX_R.out.set 0 _).set 1 _)) rfl ⟨by rw [← HE.out.1, ← HE.out.2], (HB.out.setCell (p := ⟨w.heap.size, 0, none⟩) (Nat.le_refl _) _).setCell (p := ⟨w.heap.size, 1, none⟩) (Nat.le_refl _) _⟩
theorem X_s_CubeOk (v : Value) (d : List Int) (w : World) (h : RdIntS w w.heap.size v d) (hs : szIntS d ≤ 1048576) :
    Calls Try.prog 13 #[v] w fun e w' => e = .returned (.bool (cubeB d)) ∧ Below w.heap.size w w' := by
  obtain ⟨A, n, c, rfl, _, r⟩ := h
  have := r.len; unfold szIntS at hs
  exact (s_CubeOk A n c d w r (by omega)).mono fun e w' ⟨he, hw⟩ => ⟨he, hw ▸ Below.refl _ _⟩
theorem X_i_CubeOk (v : Value) (d : List Int) (w : World) (h : RdIntS w w.heap.size v d) (hs : szIntS d ≤ 1048576) :
    Calls Try.prog 15 #[v] w fun e w' => e = .returned (.bool (cubeB d)) ∧ Below w.heap.size w w' := by
  obtain ⟨A, n, c, rfl, _, r⟩ := h
  have := r.len; unfold szIntS at hs
  exact (i_CubeOk A n c d w r (by omega)).mono fun e w' ⟨he, hw⟩ => ⟨he, hw ▸ Below.refl _ _⟩
end Go.Proofs.Ytaiilopfdjbceaa

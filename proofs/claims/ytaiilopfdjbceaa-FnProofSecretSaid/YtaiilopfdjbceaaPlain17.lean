/- P86: the law's walk. Made by tools/plain/d14.py. -/
import Derived.Test.YtaiilopfdjbceaaPlain16
import Derived.Test.YtaiilopfdjbceaaMath2d
namespace Go.Proofs.Ytaiilopfdjbceaa
open Go.RowKit
set_option maxRecDepth 100000

theorem key_arith {r s xi ka c d D V T a b e f w1 w2 : Int} (h1 : r = xi + ka * c + 113 * a) (h2 : s = xi + ka * d + 113 * b) (hD : c - d = D + 113 * e) (hV : D * V = 1 + 113 * f) (hT : T = (r - s - 113 * w1) * V - 113 * w2) :
    ∃ X, T = ka + 113 * X := ⟨ka * f + ka * e * V + (a - b) * V - w1 * V - w2, by
      have h3 : r - s = ka * (c - d) + 113 * (a - b) := by rw [h1, h2]; grind
      rw [hT, h3, hD]; grind⟩
theorem div_of {a m : Int} (h : a % 113 = m % 113) : ∃ q, a = m + 113 * q := ⟨a / 113 - m / 113, by omega⟩
theorem sec_key {k x c r y d s : Int} (h : secB k x c r y d s = true) : powI 4 (secV k x c r y d s) 227 = k ∧ numB (secV k x c r y d s) = true := by
  have hv : secV k x c r y d s = (r - s) % 113 * powI ((c - d) % 113) 111 113 % 113 := by unfold secV; rw [if_pos h]
  have hn : numB (secV k x c r y d s) = true := by rw [hv]; exact (numB_iff _).2 ⟨by omega, by omega⟩
  refine ⟨?_, hn⟩
  simp only [secB, Bool.and_eq_true, decide_eq_true_eq] at h
  obtain ⟨g1, g2, rfl, hcd⟩ := h
  have e1 := good_parts g1
  have e2 := good_parts g2
  simp only [goodB, Bool.and_eq_true, decide_eq_true_eq] at g1 g2
  obtain ⟨ka, hka, rfl⟩ := el_E4 g1.1
  obtain ⟨xi, hxi, rfl⟩ := el_E4 g1.2.1
  obtain ⟨c0, c1⟩ := (numB_iff c).1 g1.2.2.1
  obtain ⟨d0, d1⟩ := (numB_iff d).1 g2.2.2.1
  obtain ⟨⟨r0, r1⟩, hr⟩ := e1
  obtain ⟨⟨s0, s1⟩, hs⟩ := e2
  obtain ⟨C, rfl⟩ := Int.eq_ofNat_of_zero_le c0
  obtain ⟨D', rfl⟩ := Int.eq_ofNat_of_zero_le d0
  obtain ⟨R, rfl⟩ := Int.eq_ofNat_of_zero_le r0
  obtain ⟨S', rfl⟩ := Int.eq_ofNat_of_zero_le s0
  rw [powI_4, powI_E4, mul_E4] at hr hs
  have q1 := E4_eq (show E4 R = E4 (xi + ka * C) by exact_mod_cast hr)
  have q2 := E4_eq (show E4 S' = E4 (xi + ka * D') by exact_mod_cast hs)
  obtain ⟨a, ha⟩ := div_of (a := (R : Int)) (m := (xi : Int) + ka * C) (by exact_mod_cast q1)
  obtain ⟨b, hb⟩ := div_of (a := (S' : Int)) (m := (xi : Int) + ka * D') (by exact_mod_cast q2)
  obtain ⟨D, hDv⟩ : ∃ D, D = ((C : Int) - D') % 113 := ⟨_, rfl⟩
  have hD0 : D ≠ 0 := by omega
  have hinv := inv_mul (z := D) (by omega) (by omega) hD0
  obtain ⟨V, hV⟩ : ∃ V, V = powI D 111 113 := ⟨_, rfl⟩
  rw [← hV] at hinv
  rw [hv, ← hDv, ← hV]
  obtain ⟨T, hT⟩ : ∃ T, T = ((R : Int) - S') % 113 * V % 113 := ⟨_, rfl⟩
  rw [← hT]
  obtain ⟨w1, hw1⟩ : ∃ w1, ((R : Int) - S') % 113 = R - S' - 113 * w1 := ⟨((R : Int) - S') / 113, by omega⟩
  rw [hw1] at hT
  obtain ⟨M, hM⟩ : ∃ M, M = ((R : Int) - S' - 113 * w1) * V := ⟨_, rfl⟩
  rw [← hM] at hT
  obtain ⟨N, hN⟩ : ∃ N, N = D * V := ⟨_, rfl⟩
  rw [← hN] at hinv
  obtain ⟨X, hX⟩ := key_arith (r := R) (s := S') (xi := xi) (ka := ka) (c := C) (d := D') (D := D) (V := V) (T := T) (a := a) (b := b) (e := ((C : Int) - D') / 113) (f := N / 113) (w1 := w1) (w2 := M / 113) ha hb (by omega) (by rw [← hN]; omega) (by rw [← hM]; omega)
  have hTk : T = ka := by omega
  rw [hTk, powI_4]
set_option maxHeartbeats 4000000 in
theorem d_DrawProofSecret (A : Option Addr) (n c : Nat) (bs : List Int) (w : World) (h : Rd w w.heap.size 1 A n (cU bs)) (hb : Byt bs) (hn : n ≤ 1048576) (hc : n ≤ c) :
    Calls Try.prog 41 #[.slice A n c] w fun e w' => ∃ ke x c1 r x2 c2 r2, e = .returned (.tuple #[.int .i64 ke, .agg #[.int .i64 x, .int .i64 c1, .int .i64 r], .agg #[.int .i64 x2, .int .i64 c2, .int .i64 r2]]) ∧ Below w.heap.size w w' := by
  obtain ⟨W0, hW0⟩ : ∃ W, Hid ((w.alloc (.cells #[.int .i64 0, .int .i64 0, .int .i64 0] 52)).alloc (.cells #[.int .i64 0, .int .i64 0, .int .i64 0] 52) = W) := ⟨_, Lib.hid rfl⟩
  have HB : Hid (Below w.heap.size w W0) := Lib.hid (by rw [← hW0.out]; exact ((Below.refl _ _).alloc (Nat.le_refl _) _).alloc (by simp only [World.size_alloc]; omega) _)
  have HX : Hid (Bx W0 w.heap.size #[.int .i64 0, .int .i64 0, .int .i64 0] 52) := Lib.hid (by rw [← hW0.out]; exact (Bx.new _ _ _).alloc _)
  have HY : Hid (Bx W0 (w.heap.size + 1) #[.int .i64 0, .int .i64 0, .int .i64 0] 52) := Lib.hid (by rw [← hW0.out]; have := Bx.new (w.alloc (.cells #[.int .i64 0, .int .i64 0, .int .i64 0] 52)) #[.int .i64 0, .int .i64 0, .int .i64 0] 52; simp only [World.size_alloc] at this; exact this)
  have H := Lib.hid ((h.below HB.out).more HB.out.size)
  have hlt := HY.out.lt
  clear h
  go_enter Try.func41, Try.ntmps41
  go_wp2_with fail
  rw [hW0.out]
  clear hW0
  refine (d_l6Open _ _ _ _ _ H.out hb hn hc).mono ?_
  rintro e w1 ⟨rfl, ⟨A', n', c', bs', h1⟩, hb1⟩
  have H1 := Lib.hid h1
  have HX1 := Lib.hid (HX.out.below hb1 HX.out.lt)
  have HY1 := Lib.hid (HY.out.below hb1 hlt)
  have HB1 : Hid (Below w.heap.size w w1) := Lib.hid (HB.out.trans (hb1.mono HB.out.size))
  have hz1 := hb1.size
  clear h1 hb1
  go_wp2_with fail
  refine (d_l92Secret _ _ _ _ _ _ _ _ H1.out (by omega)).mono ?_
  rintro e w2 ⟨ke, x, c1, r, x2, c2, r2, q, rfl, _, _, k2⟩
  have HX2 := Lib.hid (HX1.out.kept k2 (.inl (by omega)))
  have HY2 := Lib.hid (HY1.out.kept k2 (.inl (by omega)))
  have HB2 : Hid (Below w.heap.size w w2) := Lib.hid (HB1.out.trans ((k2.to_below (by omega)).mono (by omega)))
  clear k2 HX HX1 HY HY1 HB HB1
  have cX0 : w2.cell? ⟨w.heap.size, 0, none⟩ = some (.int .i64 0) := HX2.out.cell 0
  have fX0 := HX2.out.free 0
  have cX1 : w2.cell? ⟨w.heap.size, 1, none⟩ = some (.int .i64 0) := HX2.out.cell 1
  have fX1 := HX2.out.free 1
  have cX2 : w2.cell? ⟨w.heap.size, 2, none⟩ = some (.int .i64 0) := HX2.out.cell 2
  have fX2 := HX2.out.free 2
  have cY0 : w2.cell? ⟨w.heap.size + 1, 0, none⟩ = some (.int .i64 0) := HY2.out.cell 0
  have fY0 := HY2.out.free 0
  have cY1 : w2.cell? ⟨w.heap.size + 1, 1, none⟩ = some (.int .i64 0) := HY2.out.cell 1
  have fY1 := HY2.out.free 1
  have cY2 : w2.cell? ⟨w.heap.size + 1, 2, none⟩ = some (.int .i64 0) := HY2.out.cell 2
  have fY2 := HY2.out.free 2
  go_wp2
  exact bodyPost_ret (v := .tuple #[.int .i64 ke, .agg #[.int .i64 x, .int .i64 c1, .int .i64 r], .agg #[.int .i64 x2, .int .i64 c2, .int .i64 r2]]) (resPfR2 rfl rfl rfl rfl (((((((HX2.out).set 0 (.int .i64 x)).set 1 (.int .i64 c1)).set 2 (.int .i64 r)).other ⟨(w.heap.size + 1), 0, none⟩ (.int .i64 x2) (by simp)).other ⟨(w.heap.size + 1), 1, none⟩ (.int .i64 c2) (by simp)).other ⟨(w.heap.size + 1), 2, none⟩ (.int .i64 r2) (by simp)) (((((((HY2.out).other ⟨w.heap.size, 0, none⟩ (.int .i64 x) (by simp)).other ⟨w.heap.size, 1, none⟩ (.int .i64 c1) (by simp)).other ⟨w.heap.size, 2, none⟩ (.int .i64 r) (by simp)).set 0 (.int .i64 x2)).set 1 (.int .i64 c2)).set 2 (.int .i64 r2))) rfl ⟨_, _, _, _, _, _, _, rfl, ((((((HB2.out).setCell (p := ⟨w.heap.size, 0, none⟩) (Nat.le_refl _) (.int .i64 x)).setCell (p := ⟨w.heap.size, 1, none⟩) (Nat.le_refl _) (.int .i64 c1)).setCell (p := ⟨w.heap.size, 2, none⟩) (Nat.le_refl _) (.int .i64 r)).setCell (p := ⟨(w.heap.size + 1), 0, none⟩) (by simp) (.int .i64 x2)).setCell (p := ⟨(w.heap.size + 1), 1, none⟩) (by simp) (.int .i64 c2)).setCell (p := ⟨(w.heap.size + 1), 2, none⟩) (by simp) (.int .i64 r2)⟩

set_option maxHeartbeats 4000000 in
theorem P86_walk (A : Option Addr) (n c : Nat) (bs : List Int) (w : World) (h : Rd w w.heap.size 1 A n (cU bs)) (hby : Byt bs) (hc : n ≤ c) (hm : n ≤ 9223372036854775807) :
    Calls Try.prog 12 #[.slice A n c] w fun e w' => e = .returned (.bool true) ∧ Below w.heap.size w w' := by
  by_cases hn : n ≤ 1048576
  · have h3 : ¬ ((1048576 : Int) < (n : Int)) := by omega
    have H := Lib.hid h
    clear h
    go_enter Try.func12, Try.ntmps12
    go_wp2_with fail
    refine (d_DrawProofSecret _ _ _ _ _ H.out hby hn hc).mono ?_
    rintro e w1 ⟨ke, x, c1, r, x2, c2, r2, rfl, hb⟩
    have z1 : w.heap.size ≤ w1.heap.size := hb.size
    have HB := Lib.hid hb
    clear hb
    have HPI := fun W => Lib.hid (X_i_ProofSecret ke x c1 r x2 c2 r2 W)
    have HPS := fun W => Lib.hid (X_s_ProofSecret ke x c1 r x2 c2 r2 W)
    obtain ⟨V, hV⟩ : ∃ v, Hid (secV ke x c1 r x2 c2 r2 = v) := ⟨_, Lib.hid rfl⟩
    cases hG : secB ke x c1 r x2 c2 r2
    · simp only [hG, hV.out] at HPI HPS
      clear hG hV
      obtain ⟨w9, hW9⟩ : ∃ W, Hid ((w1.alloc (.cells #[.int .i64 x, .int .i64 c1, .int .i64 r] 52)).alloc (.cells #[.int .i64 x2, .int .i64 c2, .int .i64 r2] 52) = W) := ⟨_, Lib.hid rfl⟩
      have HX_p : Hid (Bx w9 w1.heap.size #[.int .i64 x, .int .i64 c1, .int .i64 r] 52) := Lib.hid (by rw [← hW9.out]; exact (Bx.new _ _ _).alloc _)
      have HX_q : Hid (Bx w9 (w1.heap.size + 1) #[.int .i64 x2, .int .i64 c2, .int .i64 r2] 52) := Lib.hid (by rw [← hW9.out]; have := Bx.new (w1.alloc (.cells #[.int .i64 x, .int .i64 c1, .int .i64 r] 52)) #[.int .i64 x2, .int .i64 c2, .int .i64 r2] 52; simp only [World.size_alloc] at this; exact this)
      replace HB : Hid (Below w.heap.size w w9) := Lib.hid (by rw [← hW9.out]; exact (HB.out.alloc HB.out.size _).alloc (by have := HB.out.size; simp only [World.size_alloc]; omega) _)
      have z9 : w1.heap.size + 2 = w9.heap.size := by rw [← hW9.out]; simp only [World.size_alloc]
      have lp0 : ((w1.alloc (.cells #[.int .i64 x, .int .i64 c1, .int .i64 r] 52)).alloc (.cells #[.int .i64 x2, .int .i64 c2, .int .i64 r2] 52)).cell? ⟨w1.heap.size, 0, none⟩ = some (.int .i64 x) := by rw [hW9.out]; exact HX_p.out.cell 0
      have lp1 : ((w1.alloc (.cells #[.int .i64 x, .int .i64 c1, .int .i64 r] 52)).alloc (.cells #[.int .i64 x2, .int .i64 c2, .int .i64 r2] 52)).cell? ⟨w1.heap.size, 1, none⟩ = some (.int .i64 c1) := by rw [hW9.out]; exact HX_p.out.cell 1
      have lp2 : ((w1.alloc (.cells #[.int .i64 x, .int .i64 c1, .int .i64 r] 52)).alloc (.cells #[.int .i64 x2, .int .i64 c2, .int .i64 r2] 52)).cell? ⟨w1.heap.size, 2, none⟩ = some (.int .i64 r) := by rw [hW9.out]; exact HX_p.out.cell 2
      have lq0 : ((w1.alloc (.cells #[.int .i64 x, .int .i64 c1, .int .i64 r] 52)).alloc (.cells #[.int .i64 x2, .int .i64 c2, .int .i64 r2] 52)).cell? ⟨(w1.heap.size + 1), 0, none⟩ = some (.int .i64 x2) := by rw [hW9.out]; exact HX_q.out.cell 0
      have lq1 : ((w1.alloc (.cells #[.int .i64 x, .int .i64 c1, .int .i64 r] 52)).alloc (.cells #[.int .i64 x2, .int .i64 c2, .int .i64 r2] 52)).cell? ⟨(w1.heap.size + 1), 1, none⟩ = some (.int .i64 c2) := by rw [hW9.out]; exact HX_q.out.cell 1
      have lq2 : ((w1.alloc (.cells #[.int .i64 x, .int .i64 c1, .int .i64 r] 52)).alloc (.cells #[.int .i64 x2, .int .i64 c2, .int .i64 r2] 52)).cell? ⟨(w1.heap.size + 1), 2, none⟩ = some (.int .i64 r2) := by rw [hW9.out]; exact HX_q.out.cell 2
      go_wp2_with fail
      rw [hW9.out]
      clear lp0 lp1 lp2 lq0 lq1 lq2 hW9
      refine ((HPI _).out).mono ?_
      rintro e w2 ⟨rfl, hb⟩
      have z2 : w9.heap.size ≤ w2.heap.size := hb.size
      replace HX_p := Lib.hid (HX_p.out.below hb HX_p.out.lt)
      replace HX_q := Lib.hid (HX_q.out.below hb HX_q.out.lt)
      replace HB := Lib.hid (HB.out.trans (hb.mono (by omega)))
      clear hb
      have fc3 : w2.cell? ⟨w1.heap.size, 0, none⟩ = some (.int .i64 x) := HX_p.out.cell 0
      have fc4 : w2.cell? ⟨w1.heap.size, 1, none⟩ = some (.int .i64 c1) := HX_p.out.cell 1
      have fc5 : w2.cell? ⟨w1.heap.size, 2, none⟩ = some (.int .i64 r) := HX_p.out.cell 2
      have fc6 : w2.cell? ⟨(w1.heap.size + 1), 0, none⟩ = some (.int .i64 x2) := HX_q.out.cell 0
      have fc7 : w2.cell? ⟨(w1.heap.size + 1), 1, none⟩ = some (.int .i64 c2) := HX_q.out.cell 1
      have fc8 : w2.cell? ⟨(w1.heap.size + 1), 2, none⟩ = some (.int .i64 r2) := HX_q.out.cell 2
      go_wp2_with fail
      clear fc3 fc4 fc5 fc6 fc7 fc8
      refine ((HPS _).out).mono ?_
      rintro e w9 ⟨rfl, hb⟩
      have z9 : w2.heap.size ≤ w9.heap.size := hb.size
      replace HX_p := Lib.hid (HX_p.out.below hb HX_p.out.lt)
      replace HX_q := Lib.hid (HX_q.out.below hb HX_q.out.lt)
      replace HB := Lib.hid (HB.out.trans (hb.mono (by omega)))
      clear hb
      have fc10 : w9.cell? ⟨w1.heap.size, 0, none⟩ = some (.int .i64 x) := HX_p.out.cell 0
      have fc11 : w9.cell? ⟨w1.heap.size, 1, none⟩ = some (.int .i64 c1) := HX_p.out.cell 1
      have fc12 : w9.cell? ⟨w1.heap.size, 2, none⟩ = some (.int .i64 r) := HX_p.out.cell 2
      have fc13 : w9.cell? ⟨(w1.heap.size + 1), 0, none⟩ = some (.int .i64 x2) := HX_q.out.cell 0
      have fc14 : w9.cell? ⟨(w1.heap.size + 1), 1, none⟩ = some (.int .i64 c2) := HX_q.out.cell 1
      have fc15 : w9.cell? ⟨(w1.heap.size + 1), 2, none⟩ = some (.int .i64 r2) := HX_q.out.cell 2
      go_wp2
      go_ret
      exact ⟨rfl, HB.out⟩
    · simp only [hG, hV.out] at HPI HPS
      have hk := sec_key hG
      rw [hV.out] at hk
      have HPW := fun W => Lib.hid (i_ElementPow 4 V W (by decide +kernel) hk.2)
      simp only [hk.1] at HPW
      clear hk
      clear hG hV
      obtain ⟨w9, hW9⟩ : ∃ W, Hid ((w1.alloc (.cells #[.int .i64 x, .int .i64 c1, .int .i64 r] 52)).alloc (.cells #[.int .i64 x2, .int .i64 c2, .int .i64 r2] 52) = W) := ⟨_, Lib.hid rfl⟩
      have HX_p : Hid (Bx w9 w1.heap.size #[.int .i64 x, .int .i64 c1, .int .i64 r] 52) := Lib.hid (by rw [← hW9.out]; exact (Bx.new _ _ _).alloc _)
      have HX_q : Hid (Bx w9 (w1.heap.size + 1) #[.int .i64 x2, .int .i64 c2, .int .i64 r2] 52) := Lib.hid (by rw [← hW9.out]; have := Bx.new (w1.alloc (.cells #[.int .i64 x, .int .i64 c1, .int .i64 r] 52)) #[.int .i64 x2, .int .i64 c2, .int .i64 r2] 52; simp only [World.size_alloc] at this; exact this)
      replace HB : Hid (Below w.heap.size w w9) := Lib.hid (by rw [← hW9.out]; exact (HB.out.alloc HB.out.size _).alloc (by have := HB.out.size; simp only [World.size_alloc]; omega) _)
      have z9 : w1.heap.size + 2 = w9.heap.size := by rw [← hW9.out]; simp only [World.size_alloc]
      have lp0 : ((w1.alloc (.cells #[.int .i64 x, .int .i64 c1, .int .i64 r] 52)).alloc (.cells #[.int .i64 x2, .int .i64 c2, .int .i64 r2] 52)).cell? ⟨w1.heap.size, 0, none⟩ = some (.int .i64 x) := by rw [hW9.out]; exact HX_p.out.cell 0
      have lp1 : ((w1.alloc (.cells #[.int .i64 x, .int .i64 c1, .int .i64 r] 52)).alloc (.cells #[.int .i64 x2, .int .i64 c2, .int .i64 r2] 52)).cell? ⟨w1.heap.size, 1, none⟩ = some (.int .i64 c1) := by rw [hW9.out]; exact HX_p.out.cell 1
      have lp2 : ((w1.alloc (.cells #[.int .i64 x, .int .i64 c1, .int .i64 r] 52)).alloc (.cells #[.int .i64 x2, .int .i64 c2, .int .i64 r2] 52)).cell? ⟨w1.heap.size, 2, none⟩ = some (.int .i64 r) := by rw [hW9.out]; exact HX_p.out.cell 2
      have lq0 : ((w1.alloc (.cells #[.int .i64 x, .int .i64 c1, .int .i64 r] 52)).alloc (.cells #[.int .i64 x2, .int .i64 c2, .int .i64 r2] 52)).cell? ⟨(w1.heap.size + 1), 0, none⟩ = some (.int .i64 x2) := by rw [hW9.out]; exact HX_q.out.cell 0
      have lq1 : ((w1.alloc (.cells #[.int .i64 x, .int .i64 c1, .int .i64 r] 52)).alloc (.cells #[.int .i64 x2, .int .i64 c2, .int .i64 r2] 52)).cell? ⟨(w1.heap.size + 1), 1, none⟩ = some (.int .i64 c2) := by rw [hW9.out]; exact HX_q.out.cell 1
      have lq2 : ((w1.alloc (.cells #[.int .i64 x, .int .i64 c1, .int .i64 r] 52)).alloc (.cells #[.int .i64 x2, .int .i64 c2, .int .i64 r2] 52)).cell? ⟨(w1.heap.size + 1), 2, none⟩ = some (.int .i64 r2) := by rw [hW9.out]; exact HX_q.out.cell 2
      go_wp2_with fail
      rw [hW9.out]
      clear lp0 lp1 lp2 lq0 lq1 lq2 hW9
      refine ((HPI _).out).mono ?_
      rintro e w16 ⟨rfl, hb⟩
      have z16 : w9.heap.size ≤ w16.heap.size := hb.size
      replace HX_p := Lib.hid (HX_p.out.below hb HX_p.out.lt)
      replace HX_q := Lib.hid (HX_q.out.below hb HX_q.out.lt)
      replace HB := Lib.hid (HB.out.trans (hb.mono (by omega)))
      clear hb
      have fc17 : w16.cell? ⟨w1.heap.size, 0, none⟩ = some (.int .i64 x) := HX_p.out.cell 0
      have fc18 : w16.cell? ⟨w1.heap.size, 1, none⟩ = some (.int .i64 c1) := HX_p.out.cell 1
      have fc19 : w16.cell? ⟨w1.heap.size, 2, none⟩ = some (.int .i64 r) := HX_p.out.cell 2
      have fc20 : w16.cell? ⟨(w1.heap.size + 1), 0, none⟩ = some (.int .i64 x2) := HX_q.out.cell 0
      have fc21 : w16.cell? ⟨(w1.heap.size + 1), 1, none⟩ = some (.int .i64 c2) := HX_q.out.cell 1
      have fc22 : w16.cell? ⟨(w1.heap.size + 1), 2, none⟩ = some (.int .i64 r2) := HX_q.out.cell 2
      go_wp2_with fail
      clear fc17 fc18 fc19 fc20 fc21 fc22
      refine ((HPS _).out).mono ?_
      rintro e w23 ⟨rfl, hb⟩
      have z23 : w16.heap.size ≤ w23.heap.size := hb.size
      replace HX_p := Lib.hid (HX_p.out.below hb HX_p.out.lt)
      replace HX_q := Lib.hid (HX_q.out.below hb HX_q.out.lt)
      replace HB := Lib.hid (HB.out.trans (hb.mono (by omega)))
      clear hb
      have fc24 : w23.cell? ⟨w1.heap.size, 0, none⟩ = some (.int .i64 x) := HX_p.out.cell 0
      have fc25 : w23.cell? ⟨w1.heap.size, 1, none⟩ = some (.int .i64 c1) := HX_p.out.cell 1
      have fc26 : w23.cell? ⟨w1.heap.size, 2, none⟩ = some (.int .i64 r) := HX_p.out.cell 2
      have fc27 : w23.cell? ⟨(w1.heap.size + 1), 0, none⟩ = some (.int .i64 x2) := HX_q.out.cell 0
      have fc28 : w23.cell? ⟨(w1.heap.size + 1), 1, none⟩ = some (.int .i64 c2) := HX_q.out.cell 1
      have fc29 : w23.cell? ⟨(w1.heap.size + 1), 2, none⟩ = some (.int .i64 r2) := HX_q.out.cell 2
      go_wp2_with fail
      clear fc24 fc25 fc26 fc27 fc28 fc29
      refine (HPW _).out.mono ?_
      rintro e w' ⟨rfl, rfl⟩
      have fc30 : w23.cell? ⟨w1.heap.size, 0, none⟩ = some (.int .i64 x) := HX_p.out.cell 0
      have fc31 : w23.cell? ⟨w1.heap.size, 1, none⟩ = some (.int .i64 c1) := HX_p.out.cell 1
      have fc32 : w23.cell? ⟨w1.heap.size, 2, none⟩ = some (.int .i64 r) := HX_p.out.cell 2
      have fc33 : w23.cell? ⟨(w1.heap.size + 1), 0, none⟩ = some (.int .i64 x2) := HX_q.out.cell 0
      have fc34 : w23.cell? ⟨(w1.heap.size + 1), 1, none⟩ = some (.int .i64 c2) := HX_q.out.cell 1
      have fc35 : w23.cell? ⟨(w1.heap.size + 1), 2, none⟩ = some (.int .i64 r2) := HX_q.out.cell 2
      go_wp2
      go_ret
      exact ⟨rfl, HB.out⟩
  · have h3 : (1048576 : Int) < (n : Int) := by omega
    go_enter Try.func12, Try.ntmps12
    go_wp2
    go_ret
    exact ⟨rfl, Below.refl _ _⟩
end Go.Proofs.Ytaiilopfdjbceaa

/- Chapter 7: ShareCheck of both. -/
import Derived.Test.YtjpjmlcmaombnaaWalk7e
namespace Go.Proofs.Ytjpjmlcmaombnaa
open Go.RowKit
set_option maxRecDepth 100000

def chkB (d : List Int) (x y : Int) : Bool := (inB d.length 1 7 && inB x 1 7 && numB y) && (elsB d && decide ((fitW d x d.length).1 = powI 4 y 227))

set_option maxHeartbeats 2000000 in
theorem X_s_ShareCheck (v : Value) (d : List Int) (x y : Int) (w : World) (h : RdIntS w w.heap.size v d) (hs : szIntS d ≤ 1048576) :
    Calls Try.prog 46 #[v, .agg #[.int .i64 x, .int .i64 y]] w fun e w' => e = .returned (.bool (chkB d x y)) ∧ Below w.heap.size w w' := by
  obtain ⟨A, n, c, rfl, _, r⟩ := h
  have hn : n ≤ 1048576 := by have := r.len; unfold szIntS at hs; omega
  have HLN := Lib.hid r.len
  have HBa := Lib.hid ((Below.refl w.heap.size w).alloc (Nat.le_refl _) (.cells #[.int .i64 x, .int .i64 y] 53))
  have H : Hid (Rd (w.alloc (.cells #[.int .i64 x, .int .i64 y] 53)) w.heap.size 1 A n (cI d)) := Lib.hid (r.below HBa.out)
  clear r hs
  cases h1 : inB (n : Int) 1 7
  · have HF : Hid (chkB d x y = false) := Lib.hid (by unfold chkB; rw [HLN.out, h1]; rfl)
    go_enter Try.func46, Try.ntmps46
    go_wp2_with fail
    refine (s_l6In _ _ _ _).mono ?_
    rintro e w1 ⟨rfl, rfl⟩
    rw [h1]
    go_wp2
    go_ret
    exact ⟨ret_bool HF.out.symm, HBa.out⟩
  cases h2 : inB x 1 7
  · have HF : Hid (chkB d x y = false) := Lib.hid (by unfold chkB; rw [HLN.out, h1, h2]; rfl)
    go_enter Try.func46, Try.ntmps46
    go_wp2_with fail
    refine (s_l6In _ _ _ _).mono ?_
    rintro e w1 ⟨rfl, rfl⟩
    rw [h1]
    go_wp2_with fail
    refine (s_l6In _ _ _ _).mono ?_
    rintro e w1 ⟨rfl, rfl⟩
    rw [h2]
    go_wp2
    go_ret
    exact ⟨ret_bool HF.out.symm, HBa.out⟩
  cases h3 : numB y
  · have HF : Hid (chkB d x y = false) := Lib.hid (by unfold chkB; rw [HLN.out, h1, h2, h3]; rfl)
    go_enter Try.func46, Try.ntmps46
    go_wp2_with fail
    refine (s_l6In _ _ _ _).mono ?_
    rintro e w1 ⟨rfl, rfl⟩
    rw [h1]
    go_wp2_with fail
    refine (s_l6In _ _ _ _).mono ?_
    rintro e w1 ⟨rfl, rfl⟩
    rw [h2]
    go_wp2_with fail
    refine (s_NumOk _ _).mono ?_
    rintro e w1 ⟨rfl, rfl⟩
    rw [h3]
    go_wp2
    go_ret
    exact ⟨ret_bool HF.out.symm, HBa.out⟩
  have HC : Hid (chkB d x y = (elsB d && decide ((fitW d x n).1 = powI 4 y 227))) := Lib.hid (by unfold chkB; rw [HLN.out, h1, h2, h3]; rfl)
  obtain ⟨x1, x7⟩ := inB_iff.1 h2
  obtain ⟨y0, y1⟩ := (numB_iff y).1 h3
  go_enter Try.func46, Try.ntmps46
  go_wp2_with fail
  refine (s_l6In _ _ _ _).mono ?_
  rintro e w1 ⟨rfl, rfl⟩
  rw [h1]
  go_wp2_with fail
  refine (s_l6In _ _ _ _).mono ?_
  rintro e w1 ⟨rfl, rfl⟩
  rw [h2]
  go_wp2_with fail
  refine (s_NumOk _ _).mono ?_
  rintro e w1 ⟨rfl, rfl⟩
  rw [h3]
  clear h1 h2 h3
  go_wp2
  go_loop [5, 6, 7] (fun p e i => ∃ (k : Nat) (P E : Int), k ≤ n ∧ 0 ≤ P ∧ P ≤ 226 ∧ 0 ≤ E ∧ E ≤ 112 ∧ p = .int .i64 P ∧ e = .int .i64 E ∧ i = .int .i64 k ∧ Hid (P = (fitW d x k).1 ∧ E = (fitW d x k).2) ∧ Hid (elsB (d.take k) = true)) (fun _ _ i => n - (intOf i).toNat)
  case atStart => exact ⟨0, 1, 1, Nat.zero_le _, by omega, by omega, by omega, by omega, rfl, rfl, rfl, Lib.hid ⟨rfl, rfl⟩, Lib.hid rfl⟩
  case round =>
    obtain ⟨k, P, E, hk, p0, p1, e0, e1, rfl, rfl, rfl, HI, HK⟩ := hrel
    by_cases hlt : k < n
    · obtain ⟨a, z, rfl, hab, hc, HZ⟩ := H.out.intAt hlt
      have i0 : (0 : Int) ≤ (k : Int) := by omega
      have i1 : (k : Int) < (n : Int) := by omega
      cases hb : elB z
      · have HF : Hid (false = chkB d x y) := Lib.hid (by rw [HC.out, elsB_bad d k (by have := HLN.out; omega) (by rw [← HZ.out, hb])]; rfl)
        go_wp2_with fail
        refine (s_ElementOk _ _).mono ?_
        rintro e w' ⟨rfl, rfl⟩
        rw [hb]
        go_wp2
        go_ret
        exact ⟨ret_bool HF.out, HBa.out⟩
      · have hz := elB_range hb
        obtain ⟨z0, z1⟩ := hz
        obtain ⟨q0, q1⟩ := powI_bd z E
        obtain ⟨m0, m1⟩ := mul_bd2 P (powI z E 227) p0 p1 q0 q1
        obtain ⟨t0, t1⟩ := mul_bd E x e0 e1 (by omega) (by omega)
        have HK2 : Hid (elsB (d.take (k + 1)) = true) := Lib.hid (by rw [elsB_take d k (by have := HLN.out; omega), HK.out, ← HZ.out, hb]; rfl)
        have HI2 : Hid (P * powI z E 227 % 227 = (fitW d x (k + 1)).1 ∧ E * x % 113 = (fitW d x (k + 1)).2) := Lib.hid (by
          simp only [fitW]; rw [← HI.out.1, ← HI.out.2, HZ.out]; exact ⟨rfl, rfl⟩)
        clear HI HK
        go_wp2_with fail
        refine (s_ElementOk _ _).mono ?_
        rintro e w' ⟨rfl, rfl⟩
        rw [hb]
        go_wp2_with (go_at_call 88; refine (s_l1Pow _ _ _ (by omega) (by omega) (by omega) (by omega)).mono ?_; rintro e w' ⟨rfl, rfl⟩)
        go_round
        case rel => exact ⟨k + 1, P * powI z E 227 % 227, E * x % 113, by omega, by omega, by omega, by omega, by omega, rfl, rfl, by go_num, HI2, HK2⟩
        case measure => simp [intOf] <;> omega
    · obtain rfl : n = k := by omega
      have HF : Hid ((P == powI 4 y 227) = chkB d x y) := Lib.hid (by
        rw [HC.out, ← elsB_all, HLN.out, HK.out, HI.out.1]; rfl)
      clear HI HK
      go_wp2_with (go_at_call 88; refine (s_l1Pow _ _ _ (by omega) (by omega) (by omega) (by omega)).mono ?_; rintro e w' ⟨rfl, rfl⟩)
      go_ret
      exact ⟨ret_bool HF.out, HBa.out⟩

theorem sh_one (x y : Int) : shB [(x, y)] 7 = (inB x 1 7 && numB y) := by
  unfold shB ptsB
  simp only [List.length_cons, List.length_nil, okK, xsK, px, py, seenB, inB]
  simp
  cases h : numB y
  · simp
  · by_cases h1 : 1 ≤ x
    · by_cases h2 : x ≤ 7
      · have : numB x = true := (numB_iff x).2 ⟨by omega, by omega⟩
        simp [this]
      · simp [h2]
    · simp [h1]
theorem lit_p (w : World) (x y : Int) : Rd (w.alloc (.cells #[.int .i64 x, .int .i64 y] 53)) (w.heap.size + 1) 2 (some ⟨w.heap.size, 0, none⟩) 1 (cP [(x, y)]) := lit_pt_at (heap_alloc_new _ _)
theorem at_share {b g hi n : Nat} {W w0 w1 : World} {u v : Value} {A : Option Addr} {xs : List Value} (hk : Kept b (b + 1) W w0) (hk1 : Kept b (b + 1) w0 w1) (hg : g < b) (hb : b < W.heap.size) (hh : hi ≤ b)
    (c0 : w0.cell? ⟨g, 0, none⟩ = some u) (c1 : w0.cell? ⟨g, 1, none⟩ = some v) (hr : Rd w0 hi 1 A n xs) :
    Kept b (b + 1) W w1 ∧ w1.cell? ⟨g, 0, none⟩ = some u ∧ w1.cell? ⟨g, 1, none⟩ = some v ∧ Rd w1 hi 1 A n xs := by
  have hz := hk.size
  exact ⟨hk.trans hk1, (hk1.cellAt (p := ⟨g, 0, none⟩) (by simp; omega) (by simp; omega)).trans c0, (hk1.cellAt (p := ⟨g, 1, none⟩) (by simp; omega) (by simp; omega)).trans c1,
    hr.keep fun p hp => hk1.cellAt (by omega) (by omega)⟩

set_option maxHeartbeats 4000000 in
theorem X_i_ShareCheck (v : Value) (d : List Int) (x y : Int) (w : World) (h : RdIntS w w.heap.size v d) (hs : szIntS d ≤ 1048576) :
    Calls Try.prog 48 #[v, .agg #[.int .i64 x, .int .i64 y]] w fun e w' => e = .returned (.bool (chkB d x y)) ∧ Below w.heap.size w w' := by
  obtain ⟨A, n, c, rfl, _, r⟩ := h
  have hn : n ≤ 1048576 := by have := r.len; unfold szIntS at hs; omega
  have HLN := Lib.hid r.len
  have HBa := Lib.hid ((Below.refl w.heap.size w).alloc (Nat.le_refl _) (.cells #[.int .i64 x, .int .i64 y] 53))
  have H : Hid (Rd (w.alloc (.cells #[.int .i64 x, .int .i64 y] 53)) w.heap.size 1 A n (cI d)) := Lib.hid (r.below HBa.out)
  clear r hs
  by_cases h0 : n = 0
  · have HF : Hid (chkB d x y = false) := Lib.hid (by unfold chkB; rw [HLN.out, inB_f (by omega)]; rfl)
    subst h0
    go_enter Try.func48, Try.ntmps48
    go_wp2
    go_ret
    exact ⟨ret_bool HF.out.symm, HBa.out⟩
  have n0 : ((n : Int) == 0) = false := by rw [beq_eq_false_iff_ne]; omega
  by_cases h7 : 7 < n
  · have HF : Hid (chkB d x y = false) := Lib.hid (by unfold chkB; rw [HLN.out, inB_f (by omega)]; rfl)
    have n7 : (7 : Int) < (n : Int) := by omega
    go_enter Try.func48, Try.ntmps48
    go_wp2
    go_ret
    exact ⟨ret_bool HF.out.symm, HBa.out⟩
  have n7 : ¬ ((7 : Int) < (n : Int)) := by omega
  have HRE : Hid (Rd (w.alloc (.cells #[.int .i64 x, .int .i64 y] 53)) (w.alloc (.cells #[.int .i64 x, .int .i64 y] 53)).heap.size 1 A n (cI d)) := Lib.hid (H.out.more HBa.out.size)
  cases he : elsB d
  · have HF : Hid (chkB d x y = false) := Lib.hid (by unfold chkB; rw [he]; simp)
    go_enter Try.func48, Try.ntmps48
    go_wp2_with fail
    refine (i_elementsOk _ _ _ _ _ HRE.out hn).mono ?_
    rintro e w1 ⟨rfl, rfl⟩
    rw [he]
    go_wp2
    go_ret
    exact ⟨ret_bool HF.out.symm, HBa.out⟩
  have HLP : Hid (Rd ((w.alloc (.cells #[.int .i64 x, .int .i64 y] 53)).alloc (.cells #[.int .i64 x, .int .i64 y] 53)) ((w.alloc (.cells #[.int .i64 x, .int .i64 y] 53)).alloc (.cells #[.int .i64 x, .int .i64 y] 53)).heap.size 2 (some ⟨w.heap.size + 1, 0, none⟩) 1 (cP [(x, y)])) := Lib.hid (by
    have := lit_p (w.alloc (.cells #[.int .i64 x, .int .i64 y] 53)) x y
    simpa using this)
  have HBb := Lib.hid (HBa.out.alloc HBa.out.size (.cells #[.int .i64 x, .int .i64 y] 53))
  cases hsh : inB x 1 7 && numB y
  · have HF : Hid (chkB d x y = false) := Lib.hid (by unfold chkB; rw [Bool.and_assoc (inB _ 1 7), hsh]; simp)
    have HS : Hid (shB [(x, y)] 7 = false) := Lib.hid (by rw [sh_one, hsh])
    go_enter Try.func48, Try.ntmps48
    go_wp2_with fail
    refine (i_elementsOk _ _ _ _ _ HRE.out hn).mono ?_
    rintro e w1 ⟨rfl, rfl⟩
    rw [he]
    go_wp2_with fail
    refine (i_sharesOk _ _ _ _ _ _ HLP.out (by omega)).mono ?_
    rintro e w1 ⟨rfl, hb1⟩
    have HB1 := Lib.hid (HBb.out.trans (hb1.mono (by simp; omega)))
    clear hb1
    rw [HS.out]
    go_wp2
    go_ret
    exact ⟨ret_bool HF.out.symm, HB1.out⟩
  have HS : Hid (shB [(x, y)] 7 = true) := Lib.hid (by rw [sh_one, hsh])
  simp only [Bool.and_eq_true] at hsh
  obtain ⟨x1, x7⟩ := inB_iff.1 hsh.1
  obtain ⟨y0, y1⟩ := (numB_iff y).1 hsh.2
  have HC : Hid (((powI 4 y 227) == (fitW d x n).1) = chkB d x y) := Lib.hid (by
    unfold chkB
    rw [HLN.out, inB_t ⟨by omega, by omega⟩, hsh.1, hsh.2, he, Bool.true_and, Bool.true_and, Bool.true_and, Bool.true_and]
    show decide (powI 4 y 227 = (fitW d x n).1) = _
    exact decide_eq_decide.2 ⟨fun h => h.symm, fun h => h.symm⟩)
  have HEL := Lib.hid he
  obtain ⟨q0, q1⟩ := powI_bd 4 y
  have hmm := @run_makeMap Try.prog
  go_enter Try.func48, Try.ntmps48
  go_wp2_with fail
  refine (i_elementsOk _ _ _ _ _ HRE.out hn).mono ?_
  rintro e w1 ⟨rfl, rfl⟩
  rw [he]
  go_wp2_with fail
  refine (i_sharesOk _ _ _ _ _ _ HLP.out (by omega)).mono ?_
  rintro e w1 ⟨rfl, hb1⟩
  rw [HS.out]
  have hb0 : w1.heap[w.heap.size]? = some (.cells #[.int .i64 x, .int .i64 y] 53 (0, 0)) := (hb1.block _ (by simp; omega)).trans ((Below.heap_alloc _ _ _ (by simp)).trans (heap_alloc_new _ _))
  have HB1 := Lib.hid (HBb.out.trans (hb1.mono (by simp; omega)))
  have HR1 : Hid (Rd w1 w.heap.size 1 A n (cI d)) := Lib.hid ((H.out.below ((Below.refl _ _).alloc (by simp) _)).below (hb1.mono (by simp; omega)))
  have HC0 : Hid (w1.heap[w.heap.size]? = some (.cells #[.int .i64 x, .int .i64 y] 53 (0, 0))) := Lib.hid hb0
  have hz1 : w.heap.size + 2 ≤ w1.heap.size := by have := hb1.size; simp at this; omega
  clear hb1 hb0 HLP HBb HRE H HBa he hsh
  obtain ⟨W, hW⟩ : ∃ W, Hid (w1.alloc (.map #[] 0) = W) := ⟨_, Lib.hid rfl⟩
  have HPW : Hid (PM W w1.heap.size) := Lib.hid (by rw [← hW.out]; exact PM.made w1)
  have HBW : Hid (Below w.heap.size w W) := Lib.hid (by rw [← hW.out]; exact HB1.out.alloc (by omega) _)
  have HCW : Hid (W.heap[w.heap.size]? = some (.cells #[.int .i64 x, .int .i64 y] 53 (0, 0))) := Lib.hid (by rw [← hW.out, Below.heap_alloc _ _ _ (by omega)]; exact HC0.out)
  have HRW : Hid (Rd W w.heap.size 1 A n (cI d)) := Lib.hid (by rw [← hW.out]; exact HR1.out.below ((Below.refl _ _).alloc (by omega) _))
  have HLW : Hid (w1.heap.size < W.heap.size) := Lib.hid (by rw [← hW.out]; simp)
  have hgb : w.heap.size < w1.heap.size := by omega
  go_wp2
  rw [hW.out]
  have hlt := HLW.out
  have hp := HPW.out
  have hk := Kept.refl w1.heap.size (w1.heap.size + 1) W
  have hc0 : W.cell? ⟨w.heap.size, 0, none⟩ = some (.int .i64 x) := by rw [cell_of_row W _ 0 _ _ _ HCW.out]; rfl
  have hc1 : W.cell? ⟨w.heap.size, 1, none⟩ = some (.int .i64 y) := by rw [cell_of_row W _ 1 _ _ _ HCW.out]; rfl
  have hr := HRW.out
  clear HCW HRW HLW HPW hmm
  have hs := And.intro hp (And.intro hk (And.intro hc0 (And.intro hc1 hr)))
  go_region_held3 (fun w' => PM w' w1.heap.size ∧ Kept w1.heap.size (w1.heap.size + 1) W w' ∧ w'.cell? ⟨w.heap.size, 0, none⟩ = some (.int .i64 x) ∧ w'.cell? ⟨w.heap.size, 1, none⟩ = some (.int .i64 y) ∧ Rd w' w.heap.size 1 A n (cI d))
    (first | exact ⟨hp, hk, hc0, hc1, hr⟩ | exact ⟨hp.drew, hk.drew, hc0, hc1, hr⟩)
    (first
      | (go_at_call 90
         with_reducible refine (i_of w1.heap.size 4 y _ (by first | exact hp | exact hp.drew) (by omega) (by omega) y0 y1).mono ?_
         rintro e w2 ⟨rfl, hp1, hk1⟩
         have hn := at_share (hk := by first | exact hk | exact hk.drew) hk1 hgb hlt (by omega) hc0 hc1 hr
         clear hp hk hc0 hc1 hr
         obtain ⟨hk, hc0, hc1, hr⟩ := hn
         have hp := hp1
         clear hp1 hk1)
      | (go_at_call 93
         with_reducible refine (i_fitting w1.heap.size A n c w.heap.size d x _ (by first | exact hp | exact hp.drew) (by first | exact hr | exact hr.drew) (by omega) HEL.out hn (by omega) (by omega)).mono ?_
         rintro e w2 ⟨rfl, hp1, hk1⟩
         have hn := at_share (hk := by first | exact hk | exact hk.drew) hk1 hgb hlt (by omega) hc0 hc1 hr
         clear hp hk hc0 hc1 hr
         obtain ⟨hk, hc0, hc1, hr⟩ := hn
         have hp := hp1
         clear hp1 hk1))
  all_goals (
    have HB := Lib.hid (HBW.out.trans ((hk.to_below (by omega)).mono (by omega)))
    clear hk hp hs hr
    go_wp2
    go_ret
    exact ⟨ret_bool HC.out, HB.out⟩)
end Go.Proofs.Ytjpjmlcmaombnaa

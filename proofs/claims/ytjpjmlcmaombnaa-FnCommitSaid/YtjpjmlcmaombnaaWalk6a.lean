/- Chapter 5: MendMost; which shares differ from a polynomial (l5Wrong, differing); SharesWrong. -/
import Derived.Test.YtjpjmlcmaombnaaWalk5e
namespace Go.Proofs.Ytjpjmlcmaombnaa
open Go.RowKit
set_option maxRecDepth 100000

def mostI (n b : Int) : Int := if 1 ≤ n ∧ n ≤ 7 ∧ 0 ≤ b ∧ b < n then (n - b - 1) / 2 else -1
theorem mostI_no {n b : Int} (h : ¬ (1 ≤ n ∧ n ≤ 7 ∧ 0 ≤ b ∧ b < n)) : mostI n b = -1 := by unfold mostI; rw [if_neg h]
theorem mostI_yes {n b : Int} (h : 1 ≤ n ∧ n ≤ 7 ∧ 0 ≤ b ∧ b < n) : mostI n b = (n - b - 1) / 2 := by unfold mostI; rw [if_pos h]

set_option maxHeartbeats 400000 in
theorem s_MendMost (n b : Int) (w : World) :
    Calls Try.prog 20 #[.int .i64 n, .int .i64 b] w fun e w' => e = .returned (.int .i64 (mostI n b)) ∧ w = w' := by
  cases h1 : inB n 1 7
  · have HF : Hid (mostI n b = -1) := Lib.hid (mostI_no fun h => by rw [inB_t ⟨h.1, h.2.1⟩] at h1; cases h1)
    go_enter Try.func20, Try.ntmps20
    go_wp2_with fail
    refine (s_l6In _ _ _ _).mono ?_
    rintro e w1 ⟨rfl, rfl⟩
    rw [h1]
    go_wp2
    go_ret
    exact ⟨ret_i HF.out.symm, rfl⟩
  · obtain ⟨n1, n7⟩ := inB_iff.1 h1
    cases h2 : inB b 0 (n - 1)
    · have HF : Hid (mostI n b = -1) := Lib.hid (mostI_no fun h => by rw [inB_t ⟨h.2.2.1, by omega⟩] at h2; cases h2)
      go_enter Try.func20, Try.ntmps20
      go_wp2_with fail
      refine (s_l6In _ _ _ _).mono ?_
      rintro e w1 ⟨rfl, rfl⟩
      rw [h1]
      go_wp2_with fail
      refine (s_l6In _ _ _ _).mono ?_
      rintro e w1 ⟨rfl, rfl⟩
      rw [h2]
      go_wp2
      go_ret
      exact ⟨ret_i HF.out.symm, rfl⟩
    · obtain ⟨b0, b1⟩ := inB_iff.1 h2
      have HF : Hid (mostI n b = (n - b - 1) / 2) := Lib.hid (mostI_yes ⟨n1, n7, b0, by omega⟩)
      go_enter Try.func20, Try.ntmps20
      go_wp2_with fail
      refine (s_l6In _ _ _ _).mono ?_
      rintro e w1 ⟨rfl, rfl⟩
      rw [h1]
      go_wp2_with fail
      refine (s_l6In _ _ _ _).mono ?_
      rintro e w1 ⟨rfl, rfl⟩
      rw [h2]
      go_wp2
      go_ret
      exact ⟨ret_i HF.out.symm, rfl⟩

set_option maxHeartbeats 400000 in
theorem i_MendMost (n b : Int) (w : World) :
    Calls Try.prog 21 #[.int .i64 n, .int .i64 b] w fun e w' => e = .returned (.int .i64 (mostI n b)) ∧ w = w' := by
  by_cases h1 : n < 1
  · have HF : Hid (mostI n b = -1) := Lib.hid (mostI_no (by omega))
    go_enter Try.func21, Try.ntmps21
    go_wp2
    go_ret
    exact ⟨ret_i HF.out.symm, rfl⟩
  by_cases h2 : 7 < n
  · have HF : Hid (mostI n b = -1) := Lib.hid (mostI_no (by omega))
    go_enter Try.func21, Try.ntmps21
    go_wp2
    go_ret
    exact ⟨ret_i HF.out.symm, rfl⟩
  by_cases h3 : b < 0
  · have HF : Hid (mostI n b = -1) := Lib.hid (mostI_no (by omega))
    go_enter Try.func21, Try.ntmps21
    go_wp2
    go_ret
    exact ⟨ret_i HF.out.symm, rfl⟩
  by_cases h4 : n ≤ b
  · have HF : Hid (mostI n b = -1) := Lib.hid (mostI_no (by omega))
    go_enter Try.func21, Try.ntmps21
    go_wp2
    go_ret
    exact ⟨ret_i HF.out.symm, rfl⟩
  have HF : Hid (mostI n b = (n - b - 1) / 2) := Lib.hid (mostI_yes (by omega))
  have n1 : 1 ≤ n := by omega
  have n7 : n ≤ 7 := by omega
  have b0 : 0 ≤ b := by omega
  have b1 : b < n := by omega
  go_enter Try.func21, Try.ntmps21
  go_wp2
  go_ret
  exact ⟨ret_i HF.out.symm, rfl⟩

theorem X_s_MendMost (n b : Int) (w : World) :
    Calls Try.prog 20 #[.int .i64 n, .int .i64 b] w fun e w' => e = .returned (.int .i64 (mostI n b)) ∧ Below w.heap.size w w' :=
  (s_MendMost n b w).mono fun _ _ ⟨he, hw⟩ => ⟨he, by subst hw; exact Below.refl _ _⟩
theorem X_i_MendMost (n b : Int) (w : World) :
    Calls Try.prog 21 #[.int .i64 n, .int .i64 b] w fun e w' => e = .returned (.int .i64 (mostI n b)) ∧ Below w.heap.size w w' :=
  (i_MendMost n b w).mono fun _ _ ⟨he, hw⟩ => ⟨he, by subst hw; exact Below.refl _ _⟩

/-- the X of the first k points that differ from a polynomial -/
def wrK (p : List Int) (ps : List (Int × Int)) : Nat → List Int
  | 0 => []
  | k + 1 => if atI p (px ps k) = py ps k then wrK p ps k else wrK p ps k ++ [px ps k]
theorem wrK_le (p : List Int) (ps : List (Int × Int)) (k : Nat) : (wrK p ps k).length ≤ k := by
  induction k with
  | zero => simp [wrK]
  | succ k ih =>
    simp only [wrK]
    split
    · omega
    · simp; omega
theorem wrK_in {p : List Int} {ps : List (Int × Int)} {k : Nat} {x y : Int} (hp : ps.getD k (0, 0) = (x, y)) (h : atI p x = y) : wrK p ps (k + 1) = wrK p ps k := by
  rw [wrK, if_pos (by rw [(pxy hp).1, (pxy hp).2]; exact h)]
theorem wrK_out {p : List Int} {ps : List (Int × Int)} {k : Nat} {x y : Int} (hp : ps.getD k (0, 0) = (x, y)) (h : atI p x ≠ y) : wrK p ps (k + 1) = wrK p ps k ++ [x] := by
  rw [wrK, if_neg (by rw [(pxy hp).1, (pxy hp).2]; exact h), (pxy hp).1]
def XIn (ps : List (Int × Int)) (n : Nat) : Prop := ∀ k, k < n → 0 ≤ px ps k ∧ px ps k ≤ 112

set_option maxHeartbeats 2000000 in
theorem s_l5Wrong (A A' : Option Addr) (n c m c' : Nat) (zs : List Int) (ps : List (Int × Int)) (w : World) (h : Rd w w.heap.size 1 A n (cI zs)) (hN : Nums zs) (hn : n ≤ 1048576)
    (h' : Rd w w.heap.size 2 A' m (cP ps)) (hX : XIn ps m) (hm : m ≤ 1048576) :
    Calls Try.prog 65 #[.slice A n c, .slice A' m c'] w fun e w' => ∃ v, e = .returned v ∧ OwIntS w' w.heap.size w'.heap.size v (wrK zs ps m) ∧ Below w.heap.size w w' := by
  have H := Lib.hid h
  have H' := Lib.hid h'
  have HN := Lib.hid hN
  have HX := Lib.hid hX
  clear h h' hN hX
  have HO0 : Hid ((w.alloc (.cells #[] 3)).ownsRow w.heap.size 3 1 (.slice (some ⟨w.heap.size, 0, none⟩) 0 0) 0 (cI [])) := Lib.hid (own_empty w _ 1)
  have HB0 : Hid (Below w.heap.size w (w.alloc (.cells #[] 3))) := Lib.hid ((Below.refl _ _).alloc (Nat.le_refl _) _)
  go_enter Try.func65, Try.ntmps65
  go_wp2
  go_loopw [5, 6] (fun out i wr => ∃ (k L : Nat) (Ao : Option Addr) (co : Nat) (ys : List Int), k ≤ m ∧ L ≤ k ∧ i = .int .i64 k ∧ out = .slice Ao L co ∧ Hid (ys = wrK zs ps k) ∧ Hid (wr.ownsRow w.heap.size 3 1 (.slice Ao L co) L (cI ys)) ∧ Hid (Below w.heap.size w wr)) (fun _ i _ => m - (intOf i).toNat)
  case atStart => exact ⟨0, 0, _, 0, [], Nat.zero_le _, Nat.le_refl _, rfl, rfl, Lib.hid rfl, HO0, HB0⟩
  case round =>
    clear HO0 HB0
    obtain ⟨k, L, Ao, co, ys, hk, hL, rfl, rfl, HY, HO, HB⟩ := hrel
    by_cases hlt : k < m
    · obtain ⟨a, x, y, rfl, hab, hx0, hy0, HP⟩ := H'.out.ptAt hlt
      have hx := (HB.out.cell (p := a.add (k * 2)) (by rw [add_block]; exact hab)).trans hx0
      have hy := (HB.out.cell (p := ⟨(a.add (k * 2)).block, (a.add (k * 2)).off + 1, none⟩) (by rw [add_block]; exact hab)).trans hy0
      have hxr := HX.out k hlt
      rw [(pxy HP.out).1] at hxr
      obtain ⟨x0, x1⟩ := hxr
      have hzw := HB.out.size
      have HRz := Lib.hid ((H.out.below HB.out).more hzw)
      have i0 : (0 : Int) ≤ (k : Int) := by omega
      have i1 : (k : Int) < (m : Int) := by omega
      clear hx0 hy0
      by_cases hv : atI zs x = y
      · have HS := Lib.hid (HY.out.trans (wrK_in HP.out hv).symm)
        have hq : (atI zs x == y) = true := by simp [hv]
        have hq2 : (atI zs x != y) = false := by simp [hv]
        clear hv HP HY
        go_wp2
        go_quiet ((go_at_call 64; exact quiet_drewN (s_l2At _ _ _ _ _ _ (HRz.out.drewN _) HN.out hn x0 x1)))
        go_wp2
        go_roundw
        case rel => exact ⟨k + 1, L, Ao, co, ys, by omega, by omega, by go_num, rfl, HS, Lib.hid (ownsRow_below HO.out (below_drewN (Below.refl _ _) _)), Lib.hid (below_drewN HB.out _)⟩
        case measure => simp [intOf] <;> omega
      · have HS : Hid (ys ++ [x] = wrK zs ps (k + 1)) := Lib.hid (by rw [HY.out, wrK_out HP.out hv])
        have hq : (atI zs x == y) = false := by rw [beq_eq_false_iff_ne]; exact hv
        have hq2 : (atI zs x != y) = true := by simp [hv]
        clear hv HP HY
        go_wp2
        go_quiet ((go_at_call 64; exact quiet_drewN (s_l2At _ _ _ _ _ _ (HRz.out.drewN _) HN.out hn x0 x1)))
        have HL : Hid (Rd ((wr.drewN nq).alloc (.cells #[.int .i64 x] 3)) (wr.heap.size + 1) 1 (some ⟨wr.heap.size, 0, none⟩) 1 (cI [x])) := Lib.hid (lit_at (heap_alloc_new (wr.drewN nq) _))
        have HOd := Lib.hid ((ownsRow_below HO.out (below_drewN (Below.refl _ _) nq)).alloc (.cells #[.int .i64 x] 3))
        go_wp2_with (at_builtin
                     refine wpList_append_rd rfl (.tmp 27) (.tmp 33) _ rfl w.heap.size 3 _ 1 8 Try.underlying26 info_int rfl (by decide) (.slice Ao L co) L _ rfl HOd.out _ _ 1 1 (cI [x]) rfl HL.out (cI_one _) (by unfold maxLen; omega) (by omega) (by simp; omega) ?_
                     intro v6 w6 hown hgr hat
                     obtain ⟨A6, c6, hv6, ho6⟩ := Ow.of_own hown
                     subst hv6
                     have HO6 : Hid (w6.ownsRow w.heap.size 3 1 (.slice A6 (L + 1) c6) (L + 1) (cI (ys ++ [x]))) := Lib.hid (by rw [cI_append]; exact hown)
                     have HB6 : Hid (Below w.heap.size w w6) := Lib.hid (below_grown ((below_drewN HB.out nq).alloc hzw _) hgr (own_block HO.out) (by simp; omega))
                     clear hown hgr hat ho6)
        go_roundw
        case rel => exact ⟨k + 1, L + 1, A6, c6, ys ++ [x], by omega, by omega, by go_num, rfl, HS, HO6, HB6⟩
        case measure => simp [intOf] <;> omega
    · obtain rfl : m = k := by omega
      have HD : Hid (OwIntS wr w.heap.size wr.heap.size (.slice Ao L co) (wrK zs ps m)) := Lib.hid (by rw [← HY.out]; exact own_done rfl HO.out (by omega))
      go_wp2
      go_ret
      exact ⟨_, rfl, HD.out, HB.out⟩

set_option maxHeartbeats 2000000 in
theorem i_differing (A A' : Option Addr) (n c m c' : Nat) (zs : List Int) (ps : List (Int × Int)) (w : World) (h : Rd w w.heap.size 1 A n (cI zs)) (hN : Nums zs) (hn : n ≤ 1048576)
    (h' : Rd w w.heap.size 2 A' m (cP ps)) (hX : XIn ps m) (hm : m ≤ 1048576) :
    Calls Try.prog 73 #[.slice A n c, .slice A' m c'] w fun e w' => ∃ v, e = .returned v ∧ OwIntS w' w.heap.size w'.heap.size v (wrK zs ps m) ∧ Below w.heap.size w w' := by
  have H := Lib.hid h
  have H' := Lib.hid h'
  have HN := Lib.hid hN
  have HX := Lib.hid hX
  clear h h' hN hX
  have HO0 : Hid (w.ownsRow w.heap.size 3 1 (.slice none 0 0) 0 (cI [])) := Lib.hid (World.ownsRow_nil _ _ _ _)
  have HB0 : Hid (Below w.heap.size w w) := Lib.hid (Below.refl _ _)
  go_enter Try.func73, Try.ntmps73
  go_wp2
  go_loopw [5, 10] (fun out i wr => ∃ (k L : Nat) (Ao : Option Addr) (co : Nat) (ys : List Int), k ≤ m ∧ L ≤ k ∧ i = .int .i64 k ∧ out = .slice Ao L co ∧ Hid (ys = wrK zs ps k) ∧ Hid (wr.ownsRow w.heap.size 3 1 (.slice Ao L co) L (cI ys)) ∧ Hid (Below w.heap.size w wr)) (fun _ i _ => m - (intOf i).toNat)
  case atStart => exact ⟨0, 0, none, 0, [], Nat.zero_le _, Nat.le_refl _, rfl, rfl, Lib.hid rfl, HO0, HB0⟩
  case round =>
    clear HO0 HB0
    obtain ⟨k, L, Ao, co, ys, hk, hL, rfl, rfl, HY, HO, HB⟩ := hrel
    by_cases hlt : k < m
    · obtain ⟨a, x, y, rfl, hab, hx0, hy0, HP⟩ := H'.out.ptAt hlt
      have hx := (HB.out.cell (p := a.add (k * 2)) (by rw [add_block]; exact hab)).trans hx0
      have hy := (HB.out.cell (p := ⟨(a.add (k * 2)).block, (a.add (k * 2)).off + 1, none⟩) (by rw [add_block]; exact hab)).trans hy0
      have hxr := HX.out k hlt
      rw [(pxy HP.out).1] at hxr
      obtain ⟨x0, x1⟩ := hxr
      have hzw := HB.out.size
      have HBa := Lib.hid (HB.out.alloc hzw (.cells #[.int .i64 x, .int .i64 y] 53))
      have HRz := Lib.hid ((H.out.below HBa.out).more HBa.out.size)
      have HOa := Lib.hid (HO.out.alloc (.cells #[.int .i64 x, .int .i64 y] 53))
      have i0 : (0 : Int) ≤ (k : Int) := by omega
      have i1 : (k : Int) < (m : Int) := by omega
      clear hx0 hy0
      by_cases hv : atI zs x = y
      · have HS := Lib.hid (HY.out.trans (wrK_in HP.out hv).symm)
        have hq : (atI zs x == y) = true := by simp [hv]
        have hq2 : (atI zs x != y) = false := by simp [hv]
        clear hv HP HY
        go_wp2
        go_quiet ((go_at_call 111; exact quiet_still (i_polynomial_at _ _ _ _ _ _ (HRz.out.drewN _) HN.out hn x0 x1)))
        go_wp2
        go_roundw
        case rel => exact ⟨k + 1, L, Ao, co, ys, by omega, by omega, by go_num, rfl, HS, Lib.hid (ownsRow_below HOa.out (below_drewN (Below.refl _ _) _)), Lib.hid (below_drewN HBa.out _)⟩
        case measure => simp [intOf] <;> omega
      · have HS : Hid (ys ++ [x] = wrK zs ps (k + 1)) := Lib.hid (by rw [HY.out, wrK_out HP.out hv])
        have hq : (atI zs x == y) = false := by rw [beq_eq_false_iff_ne]; exact hv
        have hq2 : (atI zs x != y) = true := by simp [hv]
        clear hv HP HY
        go_wp2
        go_quiet ((go_at_call 111; exact quiet_still (i_polynomial_at _ _ _ _ _ _ (HRz.out.drewN _) HN.out hn x0 x1)))
        obtain ⟨W, hW⟩ : ∃ W, Hid (((wr.alloc (.cells #[.int .i64 x, .int .i64 y] 53)).drewN nq) = W) := ⟨_, Lib.hid rfl⟩
        have HL : Hid (Rd (((wr.alloc (.cells #[.int .i64 x, .int .i64 y] 53)).drewN nq).alloc (.cells #[.int .i64 x] 3)) (wr.heap.size + 1 + 1) 1 (some ⟨wr.heap.size + 1, 0, none⟩) 1 (cI [x])) := Lib.hid (lit_at (by have := heap_alloc_new ((wr.alloc (.cells #[.int .i64 x, .int .i64 y] 53)).drewN nq) (.cells #[.int .i64 x] 3); simp only [World.size_alloc, World.heap_drewN] at this ⊢; exact this))
        have HOd := Lib.hid ((ownsRow_below HOa.out (below_drewN (Below.refl _ _) nq)).alloc (.cells #[.int .i64 x] 3))
        go_wp2_with (at_builtin
                     refine wpList_append_rd rfl (.tmp 21) (.tmp 24) _ rfl w.heap.size 3 _ 1 8 Try.underlying26 info_int rfl (by decide) (.slice Ao L co) L _ rfl HOd.out _ _ 1 1 (cI [x]) rfl HL.out (cI_one _) (by unfold maxLen; omega) (by omega) (by simp; omega) ?_
                     intro v6 w6 hown hgr hat
                     obtain ⟨A6, c6, hv6, ho6⟩ := Ow.of_own hown
                     subst hv6
                     have HO6 : Hid (w6.ownsRow w.heap.size 3 1 (.slice A6 (L + 1) c6) (L + 1) (cI (ys ++ [x]))) := Lib.hid (by rw [cI_append]; exact hown)
                     have HB6 : Hid (Below w.heap.size w w6) := Lib.hid (below_grown ((below_drewN HBa.out nq).alloc HBa.out.size _) hgr (own_block HO.out) (by simp; omega))
                     clear hown hgr hat ho6)
        go_roundw
        case rel => exact ⟨k + 1, L + 1, A6, c6, ys ++ [x], by omega, by omega, by go_num, rfl, HS, HO6, HB6⟩
        case measure => simp [intOf] <;> omega
    · obtain rfl : m = k := by omega
      have HD : Hid (OwIntS wr w.heap.size wr.heap.size (.slice Ao L co) (wrK zs ps m)) := Lib.hid (by rw [← HY.out]; exact own_done rfl HO.out (by omega))
      go_wp2
      go_ret
      exact ⟨_, rfl, HD.out, HB.out⟩
end Go.Proofs.Ytjpjmlcmaombnaa

/- Chapter 15: keys, as the plain laws draw them. Made by tools/plain/d15.py. -/
import Derived.Test.YtdhakbpimbadgaaDraw19
import Derived.Test.YtdhakbpimbadgaaDrawG
namespace Go.Proofs.Ytdhakbpimbadgaa
open Go.RowKit
set_option maxRecDepth 100000

theorem OwIntS.of_row {w : World} {B n : Nat} {v : Value} {ys : List Int} (h : w.ownsRow B 3 1 v n (cI ys)) (hs : n ≤ 1048576) : OwIntS w B w.heap.size v ys ∧ ys.length = n := by
  obtain ⟨A, c, rfl, ho⟩ := Ow.of_own h
  exact ⟨⟨by have := ho.len; omega, A, _, c, rfl, ho⟩, ho.len⟩
set_option maxHeartbeats 8000000 in
theorem d_l92Keys (g hi p : Nat) (A : Option Addr) (n c : Nat) (bs : List Int) (w : World) (h : Rdr w g hi p A n c bs) (hp : p < 900000) :
    Calls Try.prog 100 #[.pointer (some ⟨g, 0, none⟩)] w fun e w' => ∃ v d i s q, e = .returned (.tuple #[v, .int .i64 i, .int .i64 s]) ∧ OwIntS w' w.heap.size w'.heap.size v d ∧ (1 ≤ d.length ∧ d.length ≤ 4) ∧ q ≤ p + 60 ∧ Rdr w' g hi q A n c bs ∧ Kept g (g + 1) w w' := by
  have HG := Lib.hid h.lt
  have H0 := Lib.hid (h.alloc (.cells #[] 3))
  have K0 := Lib.hid (kept_alloc g (g + 1) w (.cells #[] 3))
  have O0 : Hid ((w.alloc (.cells #[] 3)).ownsRow w.heap.size 3 1 (.slice (some ⟨w.heap.size, 0, none⟩) 0 0) 0 (cI [])) := Lib.hid (own_empty w _ 1)
  clear h
  go_enter Try.func100, Try.ntmps100
  go_wp2_with fail
  refine (d_pick _ _ _ _ _ _ _ _ _ H0.out (by omega) (by omega) (by omega)).mono ?_
  rintro e w1 ⟨T, rfl, t0, t1, h1, k1⟩
  have O1 := Lib.hid (own_keptH O0.out k1 HG.out)
  have H1 := Lib.hid h1
  have K1 := Lib.hid (K0.out.trans k1)
  clear h1 k1 O0 H0 K0
  go_wp2
  go_loopw [5, 6] (fun out kk wr => ∃ (k : Nat) (Ao : Option Addr) (co q : Nat) (zs : List Int), (k : Int) ≤ 1 + T ∧ q ≤ p + 1 + 5 * k ∧ kk = .int .i64 (1 + T - k) ∧ out = .slice Ao k co ∧ Hid (wr.ownsRow w.heap.size 3 1 (.slice Ao k co) k (cI zs)) ∧ Hid (Rdr wr g hi q A n c bs) ∧ Hid (Kept g (g + 1) w wr)) (fun _ kk _ => (intOf kk).toNat)
  case atStart => exact ⟨0, _, 0, p + 1, [], by omega, by omega, by go_num, rfl, O1, H1, K1⟩
  case round =>
    clear O1 H1 K1
    obtain ⟨k, Ao, co, q, zs, hk, hq, rfl, rfl, HO, HR, HK⟩ := hrel
    by_cases hlt : (k : Int) < 1 + T
    · have i1 : (0 : Int) < 1 + T - k := by omega
      have iw : IntKind.i64.wrap (1 + T - (k : Int) - 1) = 1 + T - (k : Int) - 1 := IntWalk.i64_in _ (by omega)
      go_wp2_with fail
      refine (d_l91Element _ _ _ _ _ _ _ _ HR.out (by omega)).mono ?_
      rintro e w2 ⟨y, q2, rfl, _, hq2, h2, k2⟩
      have HO2 := Lib.hid (own_keptH HO.out k2 HG.out)
      have HR2 := Lib.hid h2
      have HK2 := Lib.hid (HK.out.trans k2)
      clear h2 k2 HO HR HK
      have hzw := HK2.out.size
      have HL : Hid (Rd (w2.alloc (.cells #[.int .i64 y] 3)) (w2.heap.size + 1) 1 (some ⟨w2.heap.size, 0, none⟩) 1 (cI [y])) := Lib.hid (lit_at (heap_alloc_new _ _))
      go_wp2_with (at_builtin
                   refine wpList_append_rd rfl (.tmp 17) (.tmp 20) _ rfl w.heap.size 3 _ 1 8 Try.underlying22 info_int rfl (by decide) (.slice Ao k co) k _ rfl (HO2.out.alloc _) _ _ 1 1 (cI [y]) rfl HL.out (cI_one _) (by unfold maxLen; omega) (by omega) (by simp; omega) ?_
                   intro v6 w6 hown hgr hat
                   obtain ⟨A6, c6, hv6, ho6⟩ := Ow.of_own hown
                   subst hv6
                   have HO6 : Hid (w6.ownsRow w.heap.size 3 1 (.slice A6 (k + 1) c6) (k + 1) (cI (zs ++ [y]))) := Lib.hid (by rw [cI_app]; exact hown)
                   have HG6 := grow_any HO2.out HR2.out HK2.out HG.out hgr
                   have HR6 := Lib.hid HG6.1
                   have HK6 := Lib.hid HG6.2
                   clear HG6 hown hgr hat ho6)
      go_roundw
      case rel => exact ⟨k + 1, A6, c6, _, _, by omega, by omega, by go_num, rfl, HO6, HR6, HK6⟩
      case measure => simp [intOf] <;> omega
    · have hkT : (k : Int) = 1 + T := by omega
      have hk1 : 1 ≤ k := by omega
      have hk4 : k ≤ 4 := by omega
      have e0 : 1 + T - (k : Int) = 0 := by omega
      clear hk hlt
      go_wp2_with fail
      refine (d_pick _ _ _ _ _ _ _ _ _ HR.out (by omega) (by omega) (by omega)).mono ?_
      rintro e w2 ⟨j0, rfl, j00, j01, h2, k2⟩
      obtain ⟨j, rfl⟩ := Int.eq_ofNat_of_zero_le j00
      have HO2 := Lib.hid (own_keptH HO.out k2 HG.out)
      have HR2 := Lib.hid h2
      have HK2 := Lib.hid (HK.out.trans k2)
      clear h2 k2 HO HR HK
      go_wp2_with fail
      refine (d_pick _ _ _ _ _ _ _ _ _ HR2.out (by omega) (by omega) (by omega)).mono ?_
      rintro e w3 ⟨s, rfl, s0, s1, h3, k3⟩
      have HO3 := Lib.hid (own_keptH HO2.out k3 HG.out)
      have HR3 := Lib.hid h3
      have HK3 := Lib.hid (HK2.out.trans k3)
      clear h3 k3 HO2 HR2 HK2
      obtain ⟨v, hv⟩ : ∃ v, Hid (powI 4 s 227 = v) := ⟨_, Lib.hid rfl⟩
      have HP := Lib.hid (s_l1Pow 4 s w3 (by omega) (by omega) s0 (by omega))
      rw [hv.out] at HP
      clear hv
      obtain ⟨A4, c4, hv4, ho4⟩ := Ow.of_own HO3.out
      injection hv4 with hv4 _ hv5
      subst hv4 hv5
      obtain ⟨ga, cs, hA, hg1, hg2, _, _⟩ := ho4.lt (by omega)
      subst hA
      have HOw := Lib.hid ho4
      obtain ⟨u, hcu, _⟩ := ho4.intAt (k := j) (by omega)
      have hfu := ho4.free (by omega) j
      have hlz := ho4.len
      have i0 : (0 : Int) ≤ (j : Int) := by omega
      have i2 : (j : Int) < (k : Int) := by omega
      clear ho4 HO3
      go_wp2_with fail
      refine HP.out.mono ?_
      rintro e w' ⟨rfl, rfl⟩
      obtain ⟨w4, hw4⟩ : ∃ W, Hid (w3.setCell ⟨ga, j, none⟩ (.int .i64 v) = W) := ⟨_, Lib.hid rfl⟩
      have hkd : Kept ga (ga + 1) w3 w4 := by rw [← hw4.out]; exact (Kept.refl _ _ _).setCell (p := ⟨ga, j, none⟩) (Nat.le_refl _) (Nat.lt_succ_self _) _
      have hz34 : w4.heap.size = w3.heap.size := by rw [← hw4.out, World.size_setCell]
      have HO4 : Hid (OwIntS w4 w.heap.size w4.heap.size (.slice (some ⟨ga, 0, none⟩) k co) (zs.set j v)) := Lib.hid (by
        have h0 := HOw.out.set j (.int .i64 v)
        rw [cI_set, hw4.out] at h0
        exact ⟨by simp; omega, _, _, _, rfl, h0.widen (Nat.le_refl _) (by omega)⟩)
      have hgl := HG.out
      have HR4 := Lib.hid (HR3.out.move (hkd.block g HR3.out.lt (by omega)) ((hkd.to_below (by omega)).mono (by have := HR3.out.low; omega)))
      have HK4 : Hid (Kept g (g + 1) w w4) := Lib.hid (kept_up19 HK3.out hkd (by omega))
      have hln : 1 ≤ (zs.set j v).length ∧ (zs.set j v).length ≤ 4 := by simp; omega
      clear HOw HR3 HK3 hkd HP
      go_wp2_with fail
      rw [hw4.out]
      clear hw4
      have hz4 := HK4.out.size
      refine (d_pick _ _ _ _ _ _ _ _ _ HR4.out (by omega) (by omega) (by omega)).mono ?_
      rintro e w5 ⟨d, rfl, d0, d1, h5, k5⟩
      have HO5 := Lib.hid ((HO4.out.kept k5 (by omega) (.inl (by omega))).widen (Nat.le_refl _) k5.size)
      have HR5 := Lib.hid h5
      have HK5 := Lib.hid (HK4.out.trans k5)
      clear h5 k5 HO4 HR4 HK4
      by_cases h0 : d = 0
      · subst h0
        go_wp2_with fail
        refine (d_l91Num _ _ _ _ _ _ _ _ HR5.out (by omega)).mono ?_
        rintro e w6 ⟨s2, q6, rfl, _, hq6, h6, k6⟩
        have hz5 := HK5.out.size
        have HO6 := Lib.hid ((HO5.out.kept k6 (by omega) (.inl (by omega))).widen (Nat.le_refl _) k6.size)
        have HR6 := Lib.hid h6
        have HK6 := Lib.hid (HK5.out.trans k6)
        clear h6 k6
        go_wp2
        go_ret3
        exact ⟨_, _, _, _, _, rfl, HO6.out, hln, by omega, HR6.out, HK6.out⟩
      · have b0 : (d == 0) = false := by rw [beq_eq_false_iff_ne]; exact h0
        by_cases h1 : d = 1
        · subst h1
          go_wp2_with fail
          refine (d_pick _ _ _ _ _ _ _ _ _ HR5.out (by omega) (by omega) (by omega)).mono ?_
          rintro e w6 ⟨i6, rfl, i60, i61, h6, k6⟩
          have hz5 := HK5.out.size
          have HO6 := Lib.hid ((HO5.out.kept k6 (by omega) (.inl (by omega))).widen (Nat.le_refl _) k6.size)
          have HR6 := Lib.hid h6
          have HK6 := Lib.hid (HK5.out.trans k6)
          clear h6 k6
          go_wp2
          go_ret3
          exact ⟨_, _, _, _, _, rfl, HO6.out, hln, by omega, HR6.out, HK6.out⟩
        · have b1 : (d == 1) = false := by rw [beq_eq_false_iff_ne]; exact h1
          go_wp2
          go_ret3
          exact ⟨_, _, _, _, _, rfl, HO5.out, hln, by omega, HR5.out, HK5.out⟩
end Go.Proofs.Ytdhakbpimbadgaa

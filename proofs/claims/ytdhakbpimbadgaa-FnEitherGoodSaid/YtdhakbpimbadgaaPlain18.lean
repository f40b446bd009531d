/- Chapter 15: keys and proofs, as the plain laws draw them. Made by tools/plain/d15.py. -/
import Derived.Test.YtdhakbpimbadgaaDraw20
import Derived.Test.YtdhakbpimbadgaaWalk15g
namespace Go.Proofs.Ytdhakbpimbadgaa
open Go.RowKit
set_option maxRecDepth 100000

theorem cProof_set2 (ps : List Pf) (k : Nat) (v : Int) : (cProof ps).set (k * 3 + 2) (.int .i64 v) = cProof (ps.set k ((ps.getD k (0, 0, 0)).1, (ps.getD k (0, 0, 0)).2.1, v)) := by
  induction ps generalizing k with
  | nil => rfl
  | cons p t ih =>
    cases k with
    | zero => rfl
    | succ k =>
      rw [show (k + 1) * 3 + 2 = k * 3 + 2 + 1 + 1 + 1 by omega, cProof_cons, List.set_cons_succ, List.set_cons_succ, List.set_cons_succ, ih k, List.set_cons_succ, cProof_cons]
      simp
theorem emk_len {ks : List Int} {i s ch : Int} {tp : List Int} : (R_EitherMake_0 ks i s ch tp).length ≤ ks.length := by
  unfold R_EitherMake_0; split
  · rw [emakeL_length]; exact Nat.le_refl _
  · simp
theorem OwIntS.apart7 {w w' : World} {lo hi lo' hi' ga n c : Nat} {v : Value} {d : List Int} {xs : List Value} (h : OwIntS w lo hi v d) (hk : Kept ga (ga + 1) w w') (ho : Ow w lo' hi' 54 3 (some ⟨ga, 0, none⟩) n c xs) (hn : 0 < n) : OwIntS w' lo hi v d := by
  obtain ⟨hs, A, n1, c1, rfl, r⟩ := h
  refine ⟨hs, A, n1, c1, rfl, r.1, r.2.1, ?_⟩
  obtain ⟨g2, cs2, e2, _, _, hb2, _⟩ := ho.lt hn
  injection e2 with e2; injection e2 with e2; subst e2
  rcases r.2.2 with h0 | ⟨g', cs, rfl, a, b, hb, ht⟩
  · exact .inl h0
  · by_cases he : g' = ga
    · subst he
      rw [hb] at hb2; injection hb2 with hb2; injection hb2 with _ ht2
      exact absurd ht2 (by decide)
    · exact .inr ⟨g', cs, rfl, a, b, (hk.block g' (Array.getElem?_eq_some_iff.1 hb).1 (by omega)).trans hb, ht⟩
set_option maxHeartbeats 8000000 in
theorem d_l92Either (g hi p : Nat) (A : Option Addr) (n c : Nat) (bs : List Int) (w : World) (h : Rdr w g hi p A n c bs) (hp : p < 890000) :
    Calls Try.prog 71 #[.pointer (some ⟨g, 0, none⟩)] w fun e w' => ∃ v d ch v1 l, e = .returned (.tuple #[v, .int .i64 ch, v1]) ∧ OwIntS w' w.heap.size w'.heap.size v d ∧ OwProofS w' w.heap.size w'.heap.size v1 l ∧ Kept g (g + 1) w w' := by
  have hgw : g < w.heap.size := h.lt
  have HR := Lib.hid h
  clear h
  go_enter Try.func71, Try.ntmps71
  go_wp2_with fail
  refine (d_l92Keys _ _ _ _ _ _ _ _ HR.out (by omega)).mono ?_
  rintro e w1 ⟨v, d, i, s, q1, rfl, ho, hd, hq1, h2, k2⟩
  have HOk := Lib.hid ho
  have HRn := Lib.hid h2
  have HK := Lib.hid k2
  have z1 := k2.size
  clear ho h2 k2 HR
  obtain ⟨Av, nv, cv, hvv⟩ : ∃ A n c, v = .slice A n c := by obtain ⟨_, A, n, c, rfl, _⟩ := HOk.out; exact ⟨_, _, _, rfl⟩
  subst hvv
  have hnv : Hid (nv = d.length) := Lib.hid (by obtain ⟨_, A1, n1, c1, e, r⟩ := HOk.out; injection e with e1 e2 e3; subst e2; exact r.len.symm)
  have hnv1 : 1 ≤ nv := by have := hnv.out; omega
  have hnv4 : nv ≤ 4 := by have := hnv.out; omega
  clear hnv
  go_wp2_with fail
  refine (d_pick _ _ _ _ _ _ _ _ _ HRn.out (by omega) (by omega) (by omega)).mono ?_
  rintro e w2 ⟨ch, rfl, ch0, ch1, h2, k2⟩
  have z2 := k2.size
  replace HOk := Lib.hid ((HOk.out.kept k2 (by omega) (.inl (by omega))).widen (Nat.le_refl _) k2.size)
  have HRn := Lib.hid h2
  replace HK := Lib.hid (HK.out.trans k2)
  clear h2 k2
  have iw : IntKind.i64.wrap (2 * (nv : Int)) = 2 * (nv : Int) := IntWalk.i64_in _ (by omega)
  go_wp2_with fail
  refine (d_l91GoodL _ _ _ _ _ _ _ (2 * (nv : Int)) _ HRn.out (by omega) (by omega) (by omega)).mono ?_
  rintro e w3 ⟨v2, d2, q3, rfl, ho2, hd2, hq3, h2, k2⟩
  have z3 := k2.size
  have hs2 : szIntS d2 ≤ 1048576 := ho2.small
  have HOt := Lib.hid ho2
  replace HOk := Lib.hid ((HOk.out.kept k2 (by omega) (.inl (by omega))).widen (Nat.le_refl _) k2.size)
  have HRn := Lib.hid h2
  replace HK := Lib.hid (HK.out.trans k2)
  clear h2 k2 ho2
  have HEM := Lib.hid (X_s_EitherMake (.slice Av nv cv) v2 d i s ch d2 w3 HOk.out.rd HOt.out.rd HOk.out.small hs2)
  have hll := emk_len (ks := d) (i := i) (s := s) (ch := ch) (tp := d2)
  obtain ⟨l, hl⟩ : ∃ l, Hid (R_EitherMake_0 d i s ch d2 = l) := ⟨_, Lib.hid rfl⟩
  obtain ⟨o, ho⟩ : ∃ o, Hid (R_EitherMake_1 d i s ch d2 = o) := ⟨_, Lib.hid rfl⟩
  rw [hl.out, ho.out] at HEM
  rw [hl.out] at hll
  clear hl ho HOt hs2
  go_wp2_with fail
  refine HEM.out.mono ?_
  rintro e w4 ⟨gl, rfl, ho4, hb4⟩
  have z4 := hb4.size
  replace HOk := Lib.hid ((HOk.out.below hb4 (by omega)).widen (Nat.le_refl _) hb4.size)
  have HRm := Lib.hid (HRn.out.move (hb4.block g HRn.out.lt) (hb4.mono (by have := HRn.out.low; have := HRn.out.lt; omega)))
  have HRn := HRm
  replace HK := Lib.hid (HK.out.trans (below_kept g hb4))
  have HOl := Lib.hid (ho4.widen (show w.heap.size ≤ w3.heap.size by omega) (Nat.le_refl _))
  clear hb4 ho4 HEM HRm
  obtain ⟨hsl, Al, nl, cl, hgl, rl⟩ := HOl.out
  subst hgl
  have hnl := Lib.hid rl.Prooflen
  have hnl4 : nl ≤ 4 := by have := hnl.out; omega
  clear rl hd hll hsl
  go_wp2_with fail
  refine (d_pick _ _ _ _ _ _ _ _ _ HRn.out (by omega) (by omega) (by omega)).mono ?_
  rintro e w5 ⟨x, rfl, x0, x1, h2, k2⟩
  have z5 := k2.size
  replace HOk := Lib.hid ((HOk.out.kept k2 (by omega) (.inl (by omega))).widen (Nat.le_refl _) k2.size)
  replace HOl := Lib.hid ((HOl.out.kept k2 (by omega) (.inl (by omega))).widen (Nat.le_refl _) k2.size)
  have HRn := Lib.hid h2
  replace HK := Lib.hid (HK.out.trans k2)
  clear h2 k2
  by_cases hx : x = 0
  · subst hx
    by_cases hn0 : 0 < nl
    · have b1 : (0 : Int) < (nl : Int) := by omega
      go_wp2_with fail
      refine (d_pick _ _ _ _ _ _ _ _ _ HRn.out (by omega) (by omega) (by omega)).mono ?_
      rintro e w6 ⟨j0, rfl, j00, j01, h2, k2⟩
      have z6 := k2.size
      replace HOk := Lib.hid ((HOk.out.kept k2 (by omega) (.inl (by omega))).widen (Nat.le_refl _) k2.size)
      replace HOl := Lib.hid ((HOl.out.kept k2 (by omega) (.inl (by omega))).widen (Nat.le_refl _) k2.size)
      have HRn := Lib.hid h2
      replace HK := Lib.hid (HK.out.trans k2)
      clear h2 k2
      obtain ⟨j, rfl⟩ := Int.eq_ofNat_of_zero_le j00
      go_wp2_with fail
      refine (d_l91Num _ _ _ _ _ _ _ _ HRn.out (by omega)).mono ?_
      rintro e w7 ⟨v7, q7, rfl, _, hq7, h2, k2⟩
      have z7 := k2.size
      replace HOk := Lib.hid ((HOk.out.kept k2 (by omega) (.inl (by omega))).widen (Nat.le_refl _) k2.size)
      replace HOl := Lib.hid ((HOl.out.kept k2 (by omega) (.inl (by omega))).widen (Nat.le_refl _) k2.size)
      have HRn := Lib.hid h2
      replace HK := Lib.hid (HK.out.trans k2)
      clear h2 k2
      obtain ⟨_, A5, n5, c5, e5, rl⟩ := HOl.out
      injection e5 with e5 e6 e7
      subst e5 e6 e7
      obtain ⟨ga, cs, hA, hg1, hg2, _, _⟩ := rl.lt hn0
      subst hA
      have hj : j < nl := by omega
      have hlen2 : (cProof l).length = nl * 3 := rl.1
      obtain ⟨u2, hu2⟩ : ∃ u, w7.cell? ⟨ga, j * 3 + 2, none⟩ = some u := ⟨_, rl.cellAt (List.getElem?_eq_getElem (by omega))⟩
      have hf2 := rl.free hn0 (j * 3 + 2)
      have i0 : (0 : Int) ≤ (j : Int) := by omega
      have i2 : (j : Int) < (nl : Int) := by omega
      obtain ⟨wz, hwz⟩ : ∃ W, Hid (w7.setCell ⟨ga, j * 3 + 2, none⟩ (.int .i64 v7) = W) := ⟨_, Lib.hid rfl⟩
      have hkd : Kept ga (ga + 1) w7 wz := by rw [← hwz.out]; exact (Kept.refl _ _ _).setCell (p := ⟨ga, j * 3 + 2, none⟩) (Nat.le_refl _) (Nat.lt_succ_self _) _
      have hzz : wz.heap.size = w7.heap.size := by rw [← hwz.out, World.size_setCell]
      have HOm : Hid (OwProofS wz w.heap.size wz.heap.size (.slice (some ⟨ga, 0, none⟩) nl cl) (l.set j ((l.getD j (0, 0, 0)).1, (l.getD j (0, 0, 0)).2.1, v7))) := Lib.hid (by
        have h0 := rl.set (j * 3 + 2) (.int .i64 v7)
        rw [cProof_set2, hwz.out] at h0
        exact ⟨by have := hnl.out; simp; omega, _, _, _, rfl, h0.widen (Nat.le_refl _) (by omega)⟩)
      have HOk2 : Hid (OwIntS wz w.heap.size wz.heap.size (.slice Av nv cv) d) := Lib.hid ((OwIntS.apart7 HOk.out hkd rl hn0).widen (Nat.le_refl _) (by omega))
      have HRz := Lib.hid (HRn.out.move (hkd.block g HRn.out.lt (by omega)) ((hkd.to_below (by omega)).mono (by have := HRn.out.low; omega)))
      have HKz : Hid (Kept g (g + 1) w wz) := Lib.hid (kept_up19 HK.out hkd (by omega))
      clear HOk HOl HRn HK rl hkd hlen2
      have HOk := HOk2
      have HOl := HOm
      have HRn := HRz
      have HK := HKz
      clear HOk2 HOm HRz HKz
      go_wp2_with fail
      rw [hwz.out]
      clear hwz
      refine (d_pick _ _ _ _ _ _ _ _ _ HRn.out (by omega) (by omega) (by omega)).mono ?_
      rintro e w8 ⟨y, rfl, y0, y1, h2, k2⟩
      have z8 := k2.size
      replace HOk := Lib.hid ((HOk.out.kept k2 (by omega) (.inl (by omega))).widen (Nat.le_refl _) k2.size)
      replace HOl := Lib.hid ((HOl.out.kept k2 (by omega) (.inl (by omega))).widen (Nat.le_refl _) k2.size)
      have HRn := Lib.hid h2
      replace HK := Lib.hid (HK.out.trans k2)
      clear h2 k2
      by_cases hy : y = 0
      · subst hy
        go_wp2_with fail
        refine (d_l91Num _ _ _ _ _ _ _ _ HRn.out (by omega)).mono ?_
        rintro e w9 ⟨c9, q9, rfl, _, hq9, h2, k2⟩
        have z9 := k2.size
        replace HOk := Lib.hid ((HOk.out.kept k2 (by omega) (.inl (by omega))).widen (Nat.le_refl _) k2.size)
        replace HOl := Lib.hid ((HOl.out.kept k2 (by omega) (.inl (by omega))).widen (Nat.le_refl _) k2.size)
        have HRn := Lib.hid h2
        replace HK := Lib.hid (HK.out.trans k2)
        clear h2 k2
        go_wp2
        go_ret3
        exact ⟨_, _, _, _, _, rfl, HOk.out, HOl.out, HK.out⟩
      · have by0 : (y == 0) = false := by rw [beq_eq_false_iff_ne]; exact hy
        go_wp2
        go_ret3
        exact ⟨_, _, _, _, _, rfl, HOk.out, HOl.out, HK.out⟩
    · have b1 : ¬ (0 : Int) < (nl : Int) := by omega
      go_wp2_with fail
      refine (d_pick _ _ _ _ _ _ _ _ _ HRn.out (by omega) (by omega) (by omega)).mono ?_
      rintro e w8 ⟨y, rfl, y0, y1, h2, k2⟩
      have z8 := k2.size
      replace HOk := Lib.hid ((HOk.out.kept k2 (by omega) (.inl (by omega))).widen (Nat.le_refl _) k2.size)
      replace HOl := Lib.hid ((HOl.out.kept k2 (by omega) (.inl (by omega))).widen (Nat.le_refl _) k2.size)
      have HRn := Lib.hid h2
      replace HK := Lib.hid (HK.out.trans k2)
      clear h2 k2
      by_cases hy : y = 0
      · subst hy
        go_wp2_with fail
        refine (d_l91Num _ _ _ _ _ _ _ _ HRn.out (by omega)).mono ?_
        rintro e w9 ⟨c9, q9, rfl, _, hq9, h2, k2⟩
        have z9 := k2.size
        replace HOk := Lib.hid ((HOk.out.kept k2 (by omega) (.inl (by omega))).widen (Nat.le_refl _) k2.size)
        replace HOl := Lib.hid ((HOl.out.kept k2 (by omega) (.inl (by omega))).widen (Nat.le_refl _) k2.size)
        have HRn := Lib.hid h2
        replace HK := Lib.hid (HK.out.trans k2)
        clear h2 k2
        go_wp2
        go_ret3
        exact ⟨_, _, _, _, _, rfl, HOk.out, HOl.out, HK.out⟩
      · have by0 : (y == 0) = false := by rw [beq_eq_false_iff_ne]; exact hy
        go_wp2
        go_ret3
        exact ⟨_, _, _, _, _, rfl, HOk.out, HOl.out, HK.out⟩
  · have bx0 : (x == 0) = false := by rw [beq_eq_false_iff_ne]; exact hx
    go_wp2_with fail
    refine (d_pick _ _ _ _ _ _ _ _ _ HRn.out (by omega) (by omega) (by omega)).mono ?_
    rintro e w8 ⟨y, rfl, y0, y1, h2, k2⟩
    have z8 := k2.size
    replace HOk := Lib.hid ((HOk.out.kept k2 (by omega) (.inl (by omega))).widen (Nat.le_refl _) k2.size)
    replace HOl := Lib.hid ((HOl.out.kept k2 (by omega) (.inl (by omega))).widen (Nat.le_refl _) k2.size)
    have HRn := Lib.hid h2
    replace HK := Lib.hid (HK.out.trans k2)
    clear h2 k2
    by_cases hy : y = 0
    · subst hy
      go_wp2_with fail
      refine (d_l91Num _ _ _ _ _ _ _ _ HRn.out (by omega)).mono ?_
      rintro e w9 ⟨c9, q9, rfl, _, hq9, h2, k2⟩
      have z9 := k2.size
      replace HOk := Lib.hid ((HOk.out.kept k2 (by omega) (.inl (by omega))).widen (Nat.le_refl _) k2.size)
      replace HOl := Lib.hid ((HOl.out.kept k2 (by omega) (.inl (by omega))).widen (Nat.le_refl _) k2.size)
      have HRn := Lib.hid h2
      replace HK := Lib.hid (HK.out.trans k2)
      clear h2 k2
      go_wp2
      go_ret3
      exact ⟨_, _, _, _, _, rfl, HOk.out, HOl.out, HK.out⟩
    · have by0 : (y == 0) = false := by rw [beq_eq_false_iff_ne]; exact hy
      go_wp2
      go_ret3
      exact ⟨_, _, _, _, _, rfl, HOk.out, HOl.out, HK.out⟩
set_option maxHeartbeats 2000000 in
theorem d_DrawEitherGood (A : Option Addr) (n c : Nat) (bs : List Int) (w : World) (h : Rd w w.heap.size 1 A n (cU bs)) (hb : Byt bs) (hn : n ≤ 1048576) (hc : n ≤ c) :
    Calls Try.prog 28 #[.slice A n c] w fun e w' => ∃ v d ch v1 l, e = .returned (.tuple #[v, .int .i64 ch, v1]) ∧ OwIntS w' w.heap.size w'.heap.size v d ∧ OwProofS w' w.heap.size w'.heap.size v1 l ∧ Below w.heap.size w w' := by
  have H := Lib.hid h
  clear h
  go_enter Try.func28, Try.ntmps28
  go_wp2_with fail
  refine (d_l6Open _ _ _ _ _ H.out hb hn hc).mono ?_
  rintro e w1 ⟨rfl, ⟨A', n', c', bs', h1⟩, hb1⟩
  have H1 := Lib.hid h1
  have B1 := Lib.hid hb1
  have hz1 := hb1.size
  clear h1 hb1
  go_wp2_with fail
  refine (d_l92Either _ _ _ _ _ _ _ _ H1.out (by omega)).mono ?_
  rintro e w2 ⟨v, d, ch, v1, l, rfl, ho, ho2, k2⟩
  have B2 : Hid (Below w.heap.size w w2) := Lib.hid (B1.out.trans (k2.to_below B1.out.size))
  have HO := Lib.hid (ho.widen B1.out.size (Nat.le_refl _))
  have HO2 := Lib.hid (ho2.widen B1.out.size (Nat.le_refl _))
  clear ho ho2 k2
  go_wp2
  go_ret3
  exact ⟨_, _, _, _, _, rfl, HO.out, HO2.out, B2.out⟩
theorem egood_next {ks : List Int} {ch : Int} {l : List Pf} (h : egoodB ks ch l = true) : (0 ≤ ch ∧ ch ≤ 112) ∧ egoodB ks ((ch + 1) % 113) l = false := by
  simp only [egoodB, Bool.and_eq_true, decide_eq_true_eq] at h
  have hr := (numB_iff ch).1 h.2.1
  refine ⟨hr, ?_⟩
  cases e : egoodB ks ((ch + 1) % 113) l
  · rfl
  · simp only [egoodB, Bool.and_eq_true, decide_eq_true_eq] at e
    have := h.2.2.2.symm.trans e.2.2.2
    omega

set_option maxHeartbeats 4000000 in
theorem P93_walk (A : Option Addr) (n c : Nat) (bs : List Int) (w : World) (h : Rd w w.heap.size 1 A n (cU bs)) (hby : Byt bs) (hc : n ≤ c) (hm : n ≤ 9223372036854775807) :
    Calls Try.prog 7 #[.slice A n c] w fun e w' => e = .returned (.bool true) ∧ Below w.heap.size w w' := by
  by_cases hn : n ≤ 1048576
  · have h3 : ¬ ((1048576 : Int) < (n : Int)) := by omega
    have H := Lib.hid h
    clear h
    go_enter Try.func7, Try.ntmps7
    go_wp2_with fail
    refine (d_DrawEitherGood _ _ _ _ _ H.out hby hn hc).mono ?_
    rintro e w1 ⟨v, d, ch, v1, l, rfl, h_k, h_l, hb⟩
    have z1 : w.heap.size ≤ w1.heap.size := hb.size
    have HB := Lib.hid hb
    have HO_k := Lib.hid h_k
    have HO_l := Lib.hid h_l
    clear hb h_k h_l
    cases hG : egoodB d ch l
    · go_wp2_with fail
      refine (X_i_EitherGood _ _ d ch l _ (HO_k.out.rd.more (by omega)) (HO_l.out.rd.more (by omega)) HO_k.out.small HO_l.out.small).mono ?_
      rintro e w2 ⟨rfl, hb⟩
      have z2 : w1.heap.size ≤ w2.heap.size := hb.size
      replace HO_k := Lib.hid (HO_k.out.below hb (by omega))
      replace HO_l := Lib.hid (HO_l.out.below hb (by omega))
      replace HB := Lib.hid (HB.out.trans (hb.mono (by omega)))
      clear hb
      rw [hG]
      go_wp2_with fail
      refine (X_s_EitherGood _ _ d ch l _ (HO_k.out.rd.more (by omega)) (HO_l.out.rd.more (by omega)) HO_k.out.small HO_l.out.small).mono ?_
      rintro e w3 ⟨rfl, hb⟩
      have z3 : w2.heap.size ≤ w3.heap.size := hb.size
      replace HO_k := Lib.hid (HO_k.out.below hb (by omega))
      replace HO_l := Lib.hid (HO_l.out.below hb (by omega))
      replace HB := Lib.hid (HB.out.trans (hb.mono (by omega)))
      clear hb
      rw [hG]
      go_wp2
      go_ret
      exact ⟨rfl, HB.out⟩
    · have hne := egood_next hG
      obtain ⟨⟨c0, c1⟩, hno⟩ := hne
      obtain ⟨ch2, hch2⟩ : ∃ z, Hid ((ch + 1) % 113 = z) := ⟨_, Lib.hid rfl⟩
      rw [hch2.out] at hno
      have iw : IntKind.i64.wrap (ch + 1) = ch + 1 := IntWalk.i64_in _ (by omega)
      have im : (ch + 1).tmod 113 = ch2 := by rw [Int.tmod_eq_emod_of_nonneg (by omega)]; exact hch2.out
      go_wp2_with fail
      refine (X_i_EitherGood _ _ d ch l _ (HO_k.out.rd.more (by omega)) (HO_l.out.rd.more (by omega)) HO_k.out.small HO_l.out.small).mono ?_
      rintro e w4 ⟨rfl, hb⟩
      have z4 : w1.heap.size ≤ w4.heap.size := hb.size
      replace HO_k := Lib.hid (HO_k.out.below hb (by omega))
      replace HO_l := Lib.hid (HO_l.out.below hb (by omega))
      replace HB := Lib.hid (HB.out.trans (hb.mono (by omega)))
      clear hb
      rw [hG]
      go_wp2_with fail
      refine (X_s_EitherGood _ _ d ch l _ (HO_k.out.rd.more (by omega)) (HO_l.out.rd.more (by omega)) HO_k.out.small HO_l.out.small).mono ?_
      rintro e w5 ⟨rfl, hb⟩
      have z5 : w4.heap.size ≤ w5.heap.size := hb.size
      replace HO_k := Lib.hid (HO_k.out.below hb (by omega))
      replace HO_l := Lib.hid (HO_l.out.below hb (by omega))
      replace HB := Lib.hid (HB.out.trans (hb.mono (by omega)))
      clear hb
      rw [hG]
      go_wp2_with fail
      refine (X_i_EitherGood _ _ d ch2 l _ (HO_k.out.rd.more (by omega)) (HO_l.out.rd.more (by omega)) HO_k.out.small HO_l.out.small).mono ?_
      rintro e w6 ⟨rfl, hb⟩
      have z6 : w5.heap.size ≤ w6.heap.size := hb.size
      replace HO_k := Lib.hid (HO_k.out.below hb (by omega))
      replace HO_l := Lib.hid (HO_l.out.below hb (by omega))
      replace HB := Lib.hid (HB.out.trans (hb.mono (by omega)))
      clear hb
      rw [hno]
      go_wp2
      go_ret
      exact ⟨rfl, HB.out⟩
  · have h3 : (1048576 : Int) < (n : Int) := by omega
    go_enter Try.func7, Try.ntmps7
    go_wp2
    go_ret
    exact ⟨rfl, Below.refl _ _⟩
end Go.Proofs.Ytdhakbpimbadgaa

/- Chapter 15: EitherMake of the program. Made by tools/gen15/r.py. -/
import Derived.Test.YtdhakbpimbadgaaWalk15i
import Derived.Test.YtdhakbpimbadgaaMany
namespace Go.Proofs.Ytdhakbpimbadgaa
open Go.RowKit
set_option maxRecDepth 100000

theorem el_4 : elB 4 = true := by decide +kernel

set_option maxHeartbeats 8000000 in
theorem X_i_EitherMake (v v1 : Value) (ks : List Int) (i s ch : Int) (tp : List Int) (w : World) (h : RdIntS w w.heap.size v ks) (h1 : RdIntS w w.heap.size v1 tp) (hs : szIntS ks ≤ 1048576) (hs1 : szIntS tp ≤ 1048576) :
    Calls Try.prog 12 #[v, .int .i64 i, .int .i64 s, .int .i64 ch, v1] w fun e w' => ∃ g, e = .returned (.tuple #[g, .bool (R_EitherMake_1 ks i s ch tp)]) ∧ OwProofS w' w.heap.size w'.heap.size g (R_EitherMake_0 ks i s ch tp) ∧ Below w.heap.size w w' := by
  obtain ⟨A, n, c, rfl, _, h⟩ := h
  obtain ⟨A1, n1, c1, rfl, _, h1⟩ := h1
  have HL := Lib.hid h.len
  have HL1 := Lib.hid h1.len
  have hn : n ≤ 1048576 := by have := HL.out; unfold szIntS at hs; omega
  have hn1 : n1 ≤ 1048576 := by have := HL1.out; unfold szIntS at hs1; omega
  have H := Lib.hid h
  have H1 := Lib.hid h1
  clear h h1 hs hs1
  obtain ⟨W0, hW0⟩ : ∃ W, Hid ((w.alloc (.cells #[.slice A n c] 22)).alloc (.cells #[.int .i64 i, .int .i64 s] 60) = W) := ⟨_, Lib.hid rfl⟩
  have HB0 : Hid (Below w.heap.size w W0) := Lib.hid (by rw [← hW0.out]; exact ((Below.refl _ _).alloc (Nat.le_refl _) _).alloc (by simp only [World.size_alloc]; omega) _)
  have HK0 : Hid (Bx W0 w.heap.size #[.slice A n c] 22) := Lib.hid (by rw [← hW0.out]; exact (Bx.new _ _ _).alloc _)
  have HX0 : Hid (Bx W0 (w.heap.size + 1) #[.int .i64 i, .int .i64 s] 60) := Lib.hid (by rw [← hW0.out]; have := Bx.new (w.alloc (.cells #[.slice A n c] 22)) #[.int .i64 i, .int .i64 s] 60; simp only [World.size_alloc] at this; exact this)
  have z0 := HB0.out.size
  have k0 : W0.cell? ⟨w.heap.size, 0, none⟩ = some (.slice A n c) := HK0.out.cell 0
  have f0 : W0.cell? ⟨w.heap.size + 1, 0, none⟩ = some (.int .i64 i) := HX0.out.cell 0
  have f1 : W0.cell? ⟨w.heap.size + 1, 1, none⟩ = some (.int .i64 s) := HX0.out.cell 1
  go_enter Try.func12, Try.ntmps12
  go_upto_region 2 with (fail)
  rw [hW0.out]
  clear hW0
  go_wp2_with fail
  refine (i_keysOk A n c ks W0 ((H.out.below HB0.out).more z0) hn).mono ?_
  rintro e w' ⟨rfl, rfl⟩
  cases hk : keysB ks
  · have HF := emk_no (ks := ks) (i := i) (s := s) (ch := ch) (tp := tp) (by unfold emakeB; rw [hk]; rfl)
    go_wp2
    go_ret2
    exact ⟨_, ret_vb5 HF.out.1, by rw [HF.out.2]; exact OwProofS.nil5 _ _ _, HB0.out⟩
  go_wp2_with fail
  refine (i_known_ok A n c ks i s W0 ((H.out.below HB0.out).more z0) hn).mono ?_
  rintro e w2 ⟨rfl, hb⟩
  have HB2 : Hid (Below w.heap.size w w2) := Lib.hid (HB0.out.trans (hb.mono z0))
  have HX2 := Lib.hid (HX0.out.below hb HX0.out.lt)
  have HK2 := Lib.hid (HK0.out.below hb HK0.out.lt)
  have z2 := HB2.out.size
  clear k0 f0 f1 hb HB0 HX0 HK0 z0
  cases ho : ownB ks i s
  · have HF := emk_no (ks := ks) (i := i) (s := s) (ch := ch) (tp := tp) (by unfold emakeB; rw [ho]; simp)
    go_wp2
    go_ret2
    exact ⟨_, ret_vb5 HF.out.1, by rw [HF.out.2]; exact OwProofS.nil5 _ _ _, HB2.out⟩
  go_wp2_with fail
  refine (i_NumOk ch w2).mono ?_
  rintro e w' ⟨rfl, rfl⟩
  cases hc : numB ch
  · have HF := emk_no (ks := ks) (i := i) (s := s) (ch := ch) (tp := tp) (by unfold emakeB; rw [hc]; simp)
    go_wp2
    go_ret2
    exact ⟨_, ret_vb5 HF.out.1, by rw [HF.out.2]; exact OwProofS.nil5 _ _ _, HB2.out⟩
  have hk6 := keysB_len hk
  rw [HL.out] at hk6
  have iw : IntKind.i64.wrap (2 * (n : Int)) = 2 * (n : Int) := IntWalk.i64_in _ (by omega)
  have k2 : w2.cell? ⟨w.heap.size, 0, none⟩ = some (.slice A n c) := HK2.out.cell 0
  have f0 : w2.cell? ⟨w.heap.size + 1, 0, none⟩ = some (.int .i64 i) := HX2.out.cell 0
  have f1 : w2.cell? ⟨w.heap.size + 1, 1, none⟩ = some (.int .i64 s) := HX2.out.cell 1
  go_wp2_with fail
  refine (i_manyNumbers A1 n1 c1 tp (2 * (n : Int)) w2 ((H1.out.below HB2.out).more z2) hn1).mono ?_
  rintro e w' ⟨rfl, rfl⟩
  cases hm : (decide ((n1 : Int) = 2 * (n : Int)) && numsB tp)
  · have HF := emk_no (ks := ks) (i := i) (s := s) (ch := ch) (tp := tp) (by
      have hx : (decide (tp.length = 2 * ks.length) && numsB tp) = false := by
        rw [← hm, HL.out, HL1.out]; congr 1; rw [decide_eq_decide]; omega
      unfold emakeB; rw [hx]; simp)
    go_wp2
    go_ret2
    exact ⟨_, ret_vb5 HF.out.1, by rw [HF.out.2]; exact OwProofS.nil5 _ _ _, HB2.out⟩
  simp only [Bool.and_eq_true, decide_eq_true_eq] at hm
  obtain ⟨hnt, hnu⟩ := hm
  have hnt' : n1 = 2 * n := by omega
  have HF := emk_yes (ks := ks) (i := i) (s := s) (ch := ch) (tp := tp) (by
    unfold emakeB; rw [hk, ho, hc, hnu]
    simp only [Bool.true_and, Bool.and_true, decide_eq_true_eq]
    rw [HL.out, HL1.out]; exact hnt')
  obtain ⟨⟨i0, i1⟩, ⟨s0, s1⟩, hown⟩ := ownB_at ho
  obtain ⟨q, rfl⟩ := Int.eq_ofNat_of_zero_le i0
  rw [Int.toNat_natCast] at HF hown
  rw [HL.out] at i1
  have hq : q < n := by omega
  obtain ⟨ch0, ch1⟩ := (numB_iff ch).1 hc
  have HEL : Hid (elsB ks = true) := Lib.hid (by simp only [keysB, Bool.and_eq_true] at hk; exact hk.2)
  have HMAIN := Lib.hid (i_proofsBy w.heap.size n q n1 c1 A1 ks tp s ch w2 (fun W k cc r hb hkn cc0 cc1 r0 r1 => by
    have hzW := hb.size
    have hel := elB_range (elsB_el HEL.out (k := k) (by have := HL.out; omega))
    exact i_feignP w.heap.size A n c k ks (ks.getD k 0) cc r W (HK2.out.below hb HK2.out.lt) (((H.out.below HB2.out).more z2 |>.below hb).more hzW) hkn rfl cc0 cc1 r0 r1 (by omega) (by omega)) (by omega) hnt' ((H1.out.below HB2.out).more z2) hnu hq s0 s1 ch0 ch1)
  have HLIST : Hid (((List.range n).map (otherP ks tp)).set q (backI 4 (ks.getD q 0) ((tp.getD (2 * q) 0 + restK tp q ch n * s) % 113) (restK tp q ch n), restK tp q ch n, (tp.getD (2 * q) 0 + restK tp q ch n * s) % 113) = emakeL ks q s ch tp) := Lib.hid (by
    have hr := restK_bd (tp := tp) (i := q) ⟨ch0, ch1⟩ n
    have ht := numsB_at5 hnu (k := 2 * q) (by have := HL1.out; omega)
    have hmade := made_is (b := 4) (s := s) (n := tp.getD (2 * q) 0) (c := restK tp q ch n) el_4 ⟨s0, s1⟩ ht.1 hr
    rw [Int.add_emod_emod] at hmade
    unfold emakeL ownP
    rw [HL.out, ← hown, hmade])
  clear hk ho hc hnu hnt hnt' hown HEL
  go_wp2_with fail
  clear k2 f0 f1
  refine HMAIN.out.mono ?_
  rintro e w3 ⟨g, rfl, hg, hbx, hb⟩
  rw [HLIST.out] at hbx
  have HB3 : Hid (Below w.heap.size w w3) := Lib.hid (HB2.out.trans (hb.mono z2))
  have hlen : Hid ((emakeL ks q s ch tp).length = n) := Lib.hid (by rw [emakeL_length, HL.out])
  have HO : Hid (OwProofS w3 w.heap.size w3.heap.size (.slice (some ⟨g, 0, none⟩) n n) (emakeL ks q s ch tp)) := Lib.hid ⟨by rw [hlen.out]; omega, some ⟨g, 0, none⟩, n, n, rfl, by rw [cProof_length, hlen.out], Nat.le_refl _, .inr ⟨g, _, rfl, by omega, hbx.lt, hbx, by rw [List.take_of_length_le (by rw [cProof_length, hlen.out]; exact Nat.le_refl _)]⟩⟩
  clear hbx hb HMAIN HLIST
  go_wp2
  go_ret2
  exact ⟨_, ret_vb5 HF.out.1, by rw [HF.out.2]; exact HO.out, HB3.out⟩
end Go.Proofs.Ytdhakbpimbadgaa

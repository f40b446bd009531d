/- Chapter 16: RingSign. Made by tools/gen15/s.py. -/
import Derived.Test.YtdhakbpimbadgaaWalk15j
import Derived.Test.YtdhakbpimbadgaaWalk16g
namespace Go.Proofs.Ytdhakbpimbadgaa
open Go.RowKit
set_option maxRecDepth 100000

theorem powI_bd4 (n : Int) : 0 ≤ powI 4 n 227 ∧ powI 4 n 227 ≤ 226 := by
  have h1 := powI_lo 4 n 227
  have h2 := powI_hi 4 n 227 (by decide)
  exact ⟨h1, h2⟩
theorem mixB_make (ks : List Int) (q : Nat) (s ch : Int) (tp : List Int) : mixB (comsP (emakeL ks q s ch tp)) = true := by
  unfold mixB
  rw [List.all_eq_true]
  intro x hx
  unfold comsP at hx
  rw [List.mem_map] at hx
  obtain ⟨p, hp, rfl⟩ := hx
  rw [decide_eq_true_eq]
  unfold emakeL at hp
  rcases List.mem_or_eq_of_mem_set hp with hp | rfl
  · rw [List.mem_map] at hp
    obtain ⟨j, _, rfl⟩ := hp
    exact backI_bd _ _ _ _
  · exact powI_bd4 _
theorem rs_no {ks : List Int} {i s : Int} {msg tp : List Int} (h : rsignB ks i s msg tp = false) : Hid (false = R_RingSign_1 ks i s msg tp ∧ R_RingSign_0 ks i s msg tp = []) := Lib.hid ⟨h.symm, by unfold R_RingSign_0; rw [h]; rfl⟩
theorem rs_yes {ks : List Int} {i s : Int} {msg tp : List Int} (h : rsignB ks i s msg tp = true) : Hid (true = R_RingSign_1 ks i s msg tp ∧ R_RingSign_0 ks i s msg tp = emakeL ks i.toNat s (rchal ks msg (emakeL ks i.toNat s 0 tp)) tp) := Lib.hid ⟨h.symm, by unfold R_RingSign_0; rw [if_pos h]⟩
theorem rs_chal {ks : List Int} {i s : Int} {msg tp : List Int} (h : rsignB ks i s msg tp = true) : Hid (mixB (msg ++ ks ++ comsP (emakeL ks i.toNat s 0 tp)) = true) := Lib.hid (by
  unfold rsignB emakeB at h
  simp only [Bool.and_eq_true] at h
  obtain ⟨⟨hk, _⟩, hm⟩ := h
  have h1 : mixB msg = true := mixB_nums (by simp only [msgB, Bool.and_eq_true] at hm; exact hm.2)
  have h2 : mixB ks = true := mixB_els (by simp only [keysB, Bool.and_eq_true] at hk; exact hk.2)
  rw [mixB_append, mixB_append, h1, h2, mixB_make]; rfl)
theorem rs_emake {ks : List Int} {i s : Int} {msg tp : List Int} (h : rsignB ks i s msg tp = true) : Hid (R_EitherMake_1 ks i s (rchal ks msg (emakeL ks i.toNat s 0 tp)) tp = true ∧ R_EitherMake_0 ks i s (rchal ks msg (emakeL ks i.toNat s 0 tp)) tp = emakeL ks i.toNat s (rchal ks msg (emakeL ks i.toNat s 0 tp)) tp) := by
  have hb : emakeB ks i s (rchal ks msg (emakeL ks i.toNat s 0 tp)) tp = true := by
    unfold rsignB emakeB at h
    unfold emakeB
    simp only [Bool.and_eq_true] at h ⊢
    exact ⟨h.1.1, h.1.2.1, (numB_iff _).2 (rchal_bd _ _ _), h.1.2.2.2⟩
  exact Lib.hid ⟨hb, by unfold R_EitherMake_0; rw [if_pos hb]⟩

set_option maxHeartbeats 4000000 in
theorem X_i_RingSign (v v1 v2 : Value) (ks : List Int) (i s : Int) (msg tp : List Int) (w : World) (h : RdIntS w w.heap.size v ks) (h1 : RdIntS w w.heap.size v1 msg) (h2 : RdIntS w w.heap.size v2 tp) (hs : szIntS ks ≤ 1048576) (hs1 : szIntS msg ≤ 1048576) (hs2 : szIntS tp ≤ 1048576) :
    Calls Try.prog 19 #[v, .int .i64 i, .int .i64 s, v1, v2] w fun e w' => ∃ g, e = .returned (.tuple #[g, .bool (R_RingSign_1 ks i s msg tp)]) ∧ OwProofS w' w.heap.size w'.heap.size g (R_RingSign_0 ks i s msg tp) ∧ Below w.heap.size w w' := by
  have HM : ∀ (W : World) (ch : Int), Hid (Below w.heap.size w W → Calls Try.prog 12 #[v, .int .i64 i, .int .i64 s, .int .i64 ch, v2] W fun e w' => ∃ g, e = .returned (.tuple #[g, .bool (R_EitherMake_1 ks i s ch tp)]) ∧ OwProofS w' W.heap.size w'.heap.size g (R_EitherMake_0 ks i s ch tp) ∧ Below W.heap.size W w') := fun W ch => Lib.hid fun hb => X_i_EitherMake v v2 ks i s ch tp W ((h.below hb).more hb.size) ((h2.below hb).more hb.size) hs hs2
  obtain ⟨A, n, c, rfl, _, h⟩ := h
  obtain ⟨A1, n1, c1, rfl, _, h1⟩ := h1
  obtain ⟨A2, n2, c2, rfl, _, h2⟩ := h2
  have HL := Lib.hid h.len
  have HL1 := Lib.hid h1.len
  have hn : n ≤ 1048576 := by have := HL.out; unfold szIntS at hs; omega
  have hn1 : n1 ≤ 1048576 := by have := HL1.out; unfold szIntS at hs1; omega
  have H := Lib.hid h
  have H1 := Lib.hid h1
  clear h h1 h2 hs hs1 hs2
  have HM0 := Lib.hid ((HM w 0).out (Below.refl _ _))
  cases he : emakeB ks i s 0 tp
  · have HF := rs_no (ks := ks) (i := i) (s := s) (msg := msg) (tp := tp) (by unfold rsignB; rw [he]; rfl)
    have HE : Hid (R_EitherMake_1 ks i s 0 tp = false) := Lib.hid he
    rw [HE.out] at HM0
    clear he HE HM
    go_enter Try.func19, Try.ntmps19
    go_wp2_with fail
    refine HM0.out.mono ?_
    rintro e w1 ⟨g, rfl, ho, hb⟩
    have HB1 := Lib.hid hb
    clear ho hb
    go_wp2
    go_ret2
    exact ⟨_, ret_vb5 HF.out.1, by rw [HF.out.2]; exact OwProofS.nil5 _ _ _, HB1.out⟩
  have HE : Hid (R_EitherMake_1 ks i s 0 tp = true ∧ R_EitherMake_0 ks i s 0 tp = emakeL ks i.toNat s 0 tp) := Lib.hid ⟨he, by unfold R_EitherMake_0; rw [if_pos he]⟩
  have HK6 : Hid (ks.length ≤ 6) := Lib.hid (by
    have hk : keysB ks = true := by unfold emakeB at he; simp only [Bool.and_eq_true] at he; exact he.1
    exact (keysB_len hk).2)
  rw [HE.out.1, HE.out.2] at HM0
  have HEB := Lib.hid he
  clear he HE
  go_enter Try.func19, Try.ntmps19
  go_wp2_with fail
  refine HM0.out.mono ?_
  rintro e w1 ⟨g, rfl, ho, hb⟩
  obtain ⟨_, A3, n3, c3, rfl, ow⟩ := ho
  have HOW := Lib.hid ow
  have HB1 := Lib.hid hb
  have z1 := HB1.out.size
  have hn3 : n3 ≤ 1048576 := by have := HOW.out.Prooflen; rw [emakeL_length] at this; have := HK6.out; omega
  clear hb ow HM0
  go_wp2_with fail
  refine (i_messageOk A1 n1 c1 msg w1 ((H1.out.below HB1.out).more z1) hn1).mono ?_
  rintro e w' ⟨rfl, rfl⟩
  cases hm : msgB msg
  · have HF := rs_no (ks := ks) (i := i) (s := s) (msg := msg) (tp := tp) (by unfold rsignB; rw [hm]; simp)
    clear hm HM
    go_wp2
    go_ret2
    exact ⟨_, ret_vb5 HF.out.1, by rw [HF.out.2]; exact OwProofS.nil5 _ _ _, HB1.out⟩
  have HRS : Hid (rsignB ks i s msg tp = true) := Lib.hid (by unfold rsignB; rw [HEB.out, hm]; rfl)
  have HF := rs_yes HRS.out
  have HMX := rs_chal HRS.out
  have HEM := rs_emake HRS.out
  clear hm HEB HRS
  go_wp2_with fail
  refine (i_ringSigning A n c ks A1 n1 c1 msg A3 n3 c3 (emakeL ks i.toNat s 0 tp) w1 ((H.out.below HB1.out).more z1) ((H1.out.below HB1.out).more z1) HOW.out.rd hn hn1 hn3).mono ?_
  rintro e w2 ⟨Ar, cr, rfl, hr, hb⟩
  have HR := Lib.hid hr
  have HB2 : Hid (Below w.heap.size w w2) := Lib.hid (HB1.out.trans (hb.mono z1))
  have HM2 := Lib.hid ((HM w2 (rchal ks msg (emakeL ks i.toNat s 0 tp))).out HB2.out)
  rw [HEM.out.1, HEM.out.2] at HM2
  have HMV : Hid (mixV (msg ++ ks ++ comsP (emakeL ks i.toNat s 0 tp)) = rchal ks msg (emakeL ks i.toNat s 0 tp)) := Lib.hid (by unfold mixV rchal; rw [if_pos HMX.out])
  clear hr hb HM HEM HMX
  go_wp2_with fail
  rw [field_sigP]
  go_wp2_with fail
  refine (i_mixChal Ar (n1 + n + n3) cr _ w2 HR.out (by omega)).mono ?_
  rintro e w' ⟨rfl, rfl⟩
  rw [HMV.out]
  clear HR HMV
  go_wp2_with fail
  refine HM2.out.mono ?_
  rintro e w3 ⟨g, rfl, ho, hb⟩
  have HB3 : Hid (Below w.heap.size w w3) := Lib.hid (HB2.out.trans (hb.mono HB2.out.size))
  have HO3 : Hid (OwProofS w3 w.heap.size w3.heap.size g (R_RingSign_0 ks i s msg tp)) := Lib.hid (by rw [HF.out.2]; exact ⟨ho.1, by obtain ⟨_, A4, n4, c4, e4, o4⟩ := ho; exact ⟨A4, n4, c4, e4, o4.widen HB2.out.size (Nat.le_refl _)⟩⟩)
  obtain ⟨_, A4, n4, c4, rfl, _⟩ := ho
  clear hb HM2
  go_wp2
  go_ret2
  exact ⟨_, ret_vb5 HF.out.1, HO3.out, HB3.out⟩

set_option maxHeartbeats 4000000 in
theorem X_s_RingSign (v v1 v2 : Value) (ks : List Int) (i s : Int) (msg tp : List Int) (w : World) (h : RdIntS w w.heap.size v ks) (h1 : RdIntS w w.heap.size v1 msg) (h2 : RdIntS w w.heap.size v2 tp) (hs : szIntS ks ≤ 1048576) (hs1 : szIntS msg ≤ 1048576) (hs2 : szIntS tp ≤ 1048576) :
    Calls Try.prog 18 #[v, .int .i64 i, .int .i64 s, v1, v2] w fun e w' => ∃ g, e = .returned (.tuple #[g, .bool (R_RingSign_1 ks i s msg tp)]) ∧ OwProofS w' w.heap.size w'.heap.size g (R_RingSign_0 ks i s msg tp) ∧ Below w.heap.size w w' := by
  have HM : ∀ (W : World) (ch : Int), Hid (Below w.heap.size w W → Calls Try.prog 10 #[v, .int .i64 i, .int .i64 s, .int .i64 ch, v2] W fun e w' => ∃ g, e = .returned (.tuple #[g, .bool (R_EitherMake_1 ks i s ch tp)]) ∧ OwProofS w' W.heap.size w'.heap.size g (R_EitherMake_0 ks i s ch tp) ∧ Below W.heap.size W w') := fun W ch => Lib.hid fun hb => X_s_EitherMake v v2 ks i s ch tp W ((h.below hb).more hb.size) ((h2.below hb).more hb.size) hs hs2
  obtain ⟨A, n, c, rfl, _, h⟩ := h
  obtain ⟨A1, n1, c1, rfl, _, h1⟩ := h1
  obtain ⟨A2, n2, c2, rfl, _, h2⟩ := h2
  have HL := Lib.hid h.len
  have HL1 := Lib.hid h1.len
  have hn : n ≤ 1048576 := by have := HL.out; unfold szIntS at hs; omega
  have hn1 : n1 ≤ 1048576 := by have := HL1.out; unfold szIntS at hs1; omega
  have H := Lib.hid h
  have H1 := Lib.hid h1
  clear h h1 h2 hs hs1 hs2
  have HM0 := Lib.hid ((HM w 0).out (Below.refl _ _))
  cases he : emakeB ks i s 0 tp
  · have HF := rs_no (ks := ks) (i := i) (s := s) (msg := msg) (tp := tp) (by unfold rsignB; rw [he]; rfl)
    have HE : Hid (R_EitherMake_1 ks i s 0 tp = false) := Lib.hid he
    rw [HE.out] at HM0
    clear he HE HM
    go_enter Try.func18, Try.ntmps18
    go_wp2_with fail
    refine HM0.out.mono ?_
    rintro e w1 ⟨g, rfl, ho, hb⟩
    have HB1 := Lib.hid hb
    clear ho hb
    go_wp2
    go_ret2
    exact ⟨_, ret_vb5 HF.out.1, by rw [HF.out.2]; exact OwProofS.nil5 _ _ _, HB1.out⟩
  have HE : Hid (R_EitherMake_1 ks i s 0 tp = true ∧ R_EitherMake_0 ks i s 0 tp = emakeL ks i.toNat s 0 tp) := Lib.hid ⟨he, by unfold R_EitherMake_0; rw [if_pos he]⟩
  have HK6 : Hid (ks.length ≤ 6) := Lib.hid (by
    have hk : keysB ks = true := by unfold emakeB at he; simp only [Bool.and_eq_true] at he; exact he.1
    exact (keysB_len hk).2)
  rw [HE.out.1, HE.out.2] at HM0
  have HEB := Lib.hid he
  clear he HE
  go_enter Try.func18, Try.ntmps18
  go_wp2_with fail
  refine HM0.out.mono ?_
  rintro e w1 ⟨g, rfl, ho, hb⟩
  obtain ⟨_, A3, n3, c3, rfl, ow⟩ := ho
  have HOW := Lib.hid ow
  have HB1 := Lib.hid hb
  have z1 := HB1.out.size
  have hn3 : n3 ≤ 1048576 := by have := HOW.out.Prooflen; rw [emakeL_length] at this; have := HK6.out; omega
  clear hb ow HM0
  go_wp2_with fail
  refine (s_l16Message A1 n1 c1 msg w1 ((H1.out.below HB1.out).more z1) hn1).mono ?_
  rintro e w' ⟨rfl, rfl⟩
  cases hm : msgB msg
  · have HF := rs_no (ks := ks) (i := i) (s := s) (msg := msg) (tp := tp) (by unfold rsignB; rw [hm]; simp)
    clear hm HM
    go_wp2
    go_ret2
    exact ⟨_, ret_vb5 HF.out.1, by rw [HF.out.2]; exact OwProofS.nil5 _ _ _, HB1.out⟩
  have HRS : Hid (rsignB ks i s msg tp = true) := Lib.hid (by unfold rsignB; rw [HEB.out, hm]; rfl)
  have HF := rs_yes HRS.out
  have HMX := rs_chal HRS.out
  have HEM := rs_emake HRS.out
  clear hm HEB HRS
  go_wp2_with fail
  refine (s_l16Chal A1 n1 c1 msg A n c ks A3 n3 c3 (emakeL ks i.toNat s 0 tp) w1 ((H.out.below HB1.out).more z1) ((H1.out.below HB1.out).more z1) HOW.out.rd hn hn1 hn3).mono ?_
  rintro e w2 ⟨ch, rfl, hch, hb⟩
  have HB2 : Hid (Below w.heap.size w w2) := Lib.hid (HB1.out.trans (hb.mono z1))
  have HM2 := Lib.hid ((HM w2 (rchal ks msg (emakeL ks i.toNat s 0 tp))).out HB2.out)
  rw [HEM.out.1, HEM.out.2] at HM2
  obtain rfl := hch.out HMX.out
  clear hch hb HM HEM HMX
  go_wp2_with fail
  refine HM2.out.mono ?_
  rintro e w3 ⟨g, rfl, ho, hb⟩
  have HB3 : Hid (Below w.heap.size w w3) := Lib.hid (HB2.out.trans (hb.mono HB2.out.size))
  have HO3 : Hid (OwProofS w3 w.heap.size w3.heap.size g (R_RingSign_0 ks i s msg tp)) := Lib.hid (by rw [HF.out.2]; exact ⟨ho.1, by obtain ⟨_, A4, n4, c4, e4, o4⟩ := ho; exact ⟨A4, n4, c4, e4, o4.widen HB2.out.size (Nat.le_refl _)⟩⟩)
  obtain ⟨_, A4, n4, c4, rfl, _⟩ := ho
  clear hb HM2
  go_wp2
  go_ret2
  exact ⟨_, ret_vb5 HF.out.1, HO3.out, HB3.out⟩
end Go.Proofs.Ytdhakbpimbadgaa

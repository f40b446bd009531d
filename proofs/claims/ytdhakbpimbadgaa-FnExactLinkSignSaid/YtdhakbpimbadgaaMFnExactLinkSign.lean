import Derived.Test.YtdhakbpimbadgaaWalk2a
import Derived.Test.YtdhakbpimbadgaaWalk15i
import Derived.Test.YtdhakbpimbadgaaWalk16g
import Derived.Test.YtdhakbpimbadgaaWalk16o
import Derived.Test.YtdhakbpimbadgaaWalk16k
import Derived.Test.YtdhakbpimbadgaaLaw
import Derived.Test.YtdhakbpimbadgaaFProof
import Derived.Test.YtdhakbpimbadgaaFTwin
import Derived.Lib.SmallJoins
/- The program's manyNumbers: just so many numbers. -/
namespace Go.Proofs.Ytdhakbpimbadgaa
open Go.RowKit
set_option maxRecDepth 100000

set_option maxHeartbeats 1000000 in
theorem i_manyNumbers (A : Option Addr) (n c : Nat) (zs : List Int) (m : Int) (w : World) (h : Rd w w.heap.size 1 A n (cI zs)) (hn : n ≤ 1048576) :
    Calls Try.prog 44 #[.slice A n c, .int .i64 m] w fun e w' => e = .returned (.bool (decide ((n : Int) = m) && numsB zs)) ∧ w = w' := by
  have H := Lib.hid h
  clear h
  by_cases hm : (n : Int) = m
  · have HF : Hid ((decide ((n : Int) = m) && numsB zs) = numsB zs) := Lib.hid (by simp [hm])
    subst hm
    go_enter Try.func44, Try.ntmps44
    go_wp2_with fail
    refine (i_numbersOk _ _ _ _ _ H.out hn).mono ?_
    rintro e w' ⟨rfl, rfl⟩
    go_wp2
    go_ret
    exact ⟨ret_bool HF.out.symm, rfl⟩
  · have HF : Hid ((decide ((n : Int) = m) && numsB zs) = false) := Lib.hid (by simp [hm])
    have hm2 : ((n : Int) == m) = false := by rw [beq_eq_false_iff_ne]; exact hm
    go_enter Try.func44, Try.ntmps44
    go_wp2
    go_ret
    exact ⟨ret_bool HF.out.symm, rfl⟩

end Go.Proofs.Ytdhakbpimbadgaa

/- Chapter 15: EitherMake of the program. Made by tools/gen15/r.py. -/
namespace Go.Proofs.Ytdhakbpimbadgaa
open Go.RowKit
set_option maxRecDepth 100000

theorem el_4 : elB 4 = true := by decide +kernel

set_option maxHeartbeats 8000000 in
theorem X_i_EitherMake (v v1 : Value) (ks : List Int) (i s ch : Int) (tp : List Int) (w : World) (h : RdIntS w w.heap.size v ks) (h1 : RdIntS w w.heap.size v1 tp) (hs : szIntS ks ≤ 1048576) (hs1 : szIntS tp ≤ 1048576) :
    Calls Try.prog 12 #[v, .int .i64 i, .int .i64 s, .int .i64 ch, v1] w fun e w' => ∃ g, e = .returned (.tuple #[g, .bool (R_EitherMake_1 ks i s ch tp)]) ∧ OwProofS w' w.heap.size w'.heap.size g (R_EitherMake_0 ks i s ch tp) ∧ Below w.heap.size w w' := by
  obtain ⟨A, n, c, rfl, _, h⟩ := h
  obtain ⟨A1, n1, c1, rfl, _, h1⟩ := h1
  have HL := Lib.hid h.len
  have HL1 := Lib.hid h1.len
  have hn : n ≤ 1048576 := by have := HL.out; unfold szIntS at hs; omega
  have hn1 : n1 ≤ 1048576 := by have := HL1.out; unfold szIntS at hs1; omega
  have H := Lib.hid h
  have H1 := Lib.hid h1
  clear h h1 hs hs1
  obtain ⟨W0, hW0⟩ : ∃ W, Hid ((w.alloc (.cells #[.slice A n c] 22)).alloc (.cells #[.int .i64 i, .int .i64 s] 60) = W) := ⟨_, Lib.hid rfl⟩
  have HB0 : Hid (Below w.heap.size w W0) := Lib.hid (by rw [← hW0.out]; exact ((Below.refl _ _).alloc (Nat.le_refl _) _).alloc (by simp only [World.size_alloc]; omega) _)
  have HK0 : Hid (Bx W0 w.heap.size #[.slice A n c] 22) := Lib.hid (by rw [← hW0.out]; exact (Bx.new _ _ _).alloc _)
  have HX0 : Hid (Bx W0 (w.heap.size + 1) #[.int .i64 i, .int .i64 s] 60) := Lib.hid (by rw [← hW0.out]; have := Bx.new (w.alloc (.cells #[.slice A n c] 22)) #[.int .i64 i, .int .i64 s] 60; simp only [World.size_alloc] at this; exact this)
  have z0 := HB0.out.size
  have k0 : W0.cell? ⟨w.heap.size, 0, none⟩ = some (.slice A n c) := HK0.out.cell 0
  have f0 : W0.cell? ⟨w.heap.size + 1, 0, none⟩ = some (.int .i64 i) := HX0.out.cell 0
  have f1 : W0.cell? ⟨w.heap.size + 1, 1, none⟩ = some (.int .i64 s) := HX0.out.cell 1
  go_enter Try.func12, Try.ntmps12
  go_upto_region 2 with (fail)
  rw [hW0.out]
  clear hW0
  go_wp2_with fail
  refine (i_keysOk A n c ks W0 ((H.out.below HB0.out).more z0) hn).mono ?_
  rintro e w' ⟨rfl, rfl⟩
  cases hk : keysB ks
  · have HF := emk_no (ks := ks) (i := i) (s := s) (ch := ch) (tp := tp) (by unfold emakeB; rw [hk]; rfl)
    go_wp2
    go_ret2
    exact ⟨_, ret_vb5 HF.out.1, by rw [HF.out.2]; exact OwProofS.nil5 _ _ _, HB0.out⟩
  go_wp2_with fail
  refine (i_known_ok A n c ks i s W0 ((H.out.below HB0.out).more z0) hn).mono ?_
  rintro e w2 ⟨rfl, hb⟩
  have HB2 : Hid (Below w.heap.size w w2) := Lib.hid (HB0.out.trans (hb.mono z0))
  have HX2 := Lib.hid (HX0.out.below hb HX0.out.lt)
  have HK2 := Lib.hid (HK0.out.below hb HK0.out.lt)
  have z2 := HB2.out.size
  clear k0 f0 f1 hb HB0 HX0 HK0 z0
  cases ho : ownB ks i s
  · have HF := emk_no (ks := ks) (i := i) (s := s) (ch := ch) (tp := tp) (by unfold emakeB; rw [ho]; simp)
    go_wp2
    go_ret2
    exact ⟨_, ret_vb5 HF.out.1, by rw [HF.out.2]; exact OwProofS.nil5 _ _ _, HB2.out⟩
  go_wp2_with fail
  refine (i_NumOk ch w2).mono ?_
  rintro e w' ⟨rfl, rfl⟩
  cases hc : numB ch
  · have HF := emk_no (ks := ks) (i := i) (s := s) (ch := ch) (tp := tp) (by unfold emakeB; rw [hc]; simp)
    go_wp2
    go_ret2
    exact ⟨_, ret_vb5 HF.out.1, by rw [HF.out.2]; exact OwProofS.nil5 _ _ _, HB2.out⟩
  have hk6 := keysB_len hk
  rw [HL.out] at hk6
  have iw : IntKind.i64.wrap (2 * (n : Int)) = 2 * (n : Int) := IntWalk.i64_in _ (by omega)
  have k2 : w2.cell? ⟨w.heap.size, 0, none⟩ = some (.slice A n c) := HK2.out.cell 0
  have f0 : w2.cell? ⟨w.heap.size + 1, 0, none⟩ = some (.int .i64 i) := HX2.out.cell 0
  have f1 : w2.cell? ⟨w.heap.size + 1, 1, none⟩ = some (.int .i64 s) := HX2.out.cell 1
  go_wp2_with fail
  refine (i_manyNumbers A1 n1 c1 tp (2 * (n : Int)) w2 ((H1.out.below HB2.out).more z2) hn1).mono ?_
  rintro e w' ⟨rfl, rfl⟩
  cases hm : (decide ((n1 : Int) = 2 * (n : Int)) && numsB tp)
  · have HF := emk_no (ks := ks) (i := i) (s := s) (ch := ch) (tp := tp) (by
      have hx : (decide (tp.length = 2 * ks.length) && numsB tp) = false := by
        rw [← hm, HL.out, HL1.out]; congr 1; rw [decide_eq_decide]; omega
      unfold emakeB; rw [hx]; simp)
    go_wp2
    go_ret2
    exact ⟨_, ret_vb5 HF.out.1, by rw [HF.out.2]; exact OwProofS.nil5 _ _ _, HB2.out⟩
  simp only [Bool.and_eq_true, decide_eq_true_eq] at hm
  obtain ⟨hnt, hnu⟩ := hm
  have hnt' : n1 = 2 * n := by omega
  have HF := emk_yes (ks := ks) (i := i) (s := s) (ch := ch) (tp := tp) (by
    unfold emakeB; rw [hk, ho, hc, hnu]
    simp only [Bool.true_and, Bool.and_true, decide_eq_true_eq]
    rw [HL.out, HL1.out]; exact hnt')
  obtain ⟨⟨i0, i1⟩, ⟨s0, s1⟩, hown⟩ := ownB_at ho
  obtain ⟨q, rfl⟩ := Int.eq_ofNat_of_zero_le i0
  rw [Int.toNat_natCast] at HF hown
  rw [HL.out] at i1
  have hq : q < n := by omega
  obtain ⟨ch0, ch1⟩ := (numB_iff ch).1 hc
  have HEL : Hid (elsB ks = true) := Lib.hid (by simp only [keysB, Bool.and_eq_true] at hk; exact hk.2)
  have HMAIN := Lib.hid (i_proofsBy w.heap.size n q n1 c1 A1 ks tp s ch w2 (fun W k cc r hb hkn cc0 cc1 r0 r1 => by
    have hzW := hb.size
    have hel := elB_range (elsB_el HEL.out (k := k) (by have := HL.out; omega))
    exact i_feignP w.heap.size A n c k ks (ks.getD k 0) cc r W (HK2.out.below hb HK2.out.lt) (((H.out.below HB2.out).more z2 |>.below hb).more hzW) hkn rfl cc0 cc1 r0 r1 (by omega) (by omega)) (by omega) hnt' ((H1.out.below HB2.out).more z2) hnu hq s0 s1 ch0 ch1)
  have HLIST : Hid (((List.range n).map (otherP ks tp)).set q (backI 4 (ks.getD q 0) ((tp.getD (2 * q) 0 + restK tp q ch n * s) % 113) (restK tp q ch n), restK tp q ch n, (tp.getD (2 * q) 0 + restK tp q ch n * s) % 113) = emakeL ks q s ch tp) := Lib.hid (by
    have hr := restK_bd (tp := tp) (i := q) ⟨ch0, ch1⟩ n
    have ht := numsB_at5 hnu (k := 2 * q) (by have := HL1.out; omega)
    have hmade := made_is (b := 4) (s := s) (n := tp.getD (2 * q) 0) (c := restK tp q ch n) el_4 ⟨s0, s1⟩ ht.1 hr
    rw [Int.add_emod_emod] at hmade
    unfold emakeL ownP
    rw [HL.out, ← hown, hmade])
  clear hk ho hc hnu hnt hnt' hown HEL
  go_wp2_with fail
  clear k2 f0 f1
  refine HMAIN.out.mono ?_
  rintro e w3 ⟨g, rfl, hg, hbx, hb⟩
  rw [HLIST.out] at hbx
  have HB3 : Hid (Below w.heap.size w w3) := Lib.hid (HB2.out.trans (hb.mono z2))
  have hlen : Hid ((emakeL ks q s ch tp).length = n) := Lib.hid (by rw [emakeL_length, HL.out])
  have HO : Hid (OwProofS w3 w.heap.size w3.heap.size (.slice (some ⟨g, 0, none⟩) n n) (emakeL ks q s ch tp)) := Lib.hid ⟨by rw [hlen.out]; omega, some ⟨g, 0, none⟩, n, n, rfl, by rw [cProof_length, hlen.out], Nat.le_refl _, .inr ⟨g, _, rfl, by omega, hbx.lt, hbx, by rw [List.take_of_length_le (by rw [cProof_length, hlen.out]; exact Nat.le_refl _)]⟩⟩
  clear hbx hb HMAIN HLIST
  go_wp2
  go_ret2
  exact ⟨_, ret_vb5 HF.out.1, by rw [HF.out.2]; exact HO.out, HB3.out⟩
end Go.Proofs.Ytdhakbpimbadgaa

/- Chapter 16: RingSign. Made by tools/gen15/s.py. -/
namespace Go.Proofs.Ytdhakbpimbadgaa
open Go.RowKit
set_option maxRecDepth 100000

theorem powI_bd4 (n : Int) : 0 ≤ powI 4 n 227 ∧ powI 4 n 227 ≤ 226 := by
  have h1 := powI_lo 4 n 227
  have h2 := powI_hi 4 n 227 (by decide)
  exact ⟨h1, h2⟩
theorem mixB_make (ks : List Int) (q : Nat) (s ch : Int) (tp : List Int) : mixB (comsP (emakeL ks q s ch tp)) = true := by
  unfold mixB
  rw [List.all_eq_true]
  intro x hx
  unfold comsP at hx
  rw [List.mem_map] at hx
  obtain ⟨p, hp, rfl⟩ := hx
  rw [decide_eq_true_eq]
  unfold emakeL at hp
  rcases List.mem_or_eq_of_mem_set hp with hp | rfl
  · rw [List.mem_map] at hp
    obtain ⟨j, _, rfl⟩ := hp
    exact backI_bd _ _ _ _
  · exact powI_bd4 _
theorem rs_no {ks : List Int} {i s : Int} {msg tp : List Int} (h : rsignB ks i s msg tp = false) : Hid (false = R_RingSign_1 ks i s msg tp ∧ R_RingSign_0 ks i s msg tp = []) := Lib.hid ⟨h.symm, by unfold R_RingSign_0; rw [h]; rfl⟩
theorem rs_yes {ks : List Int} {i s : Int} {msg tp : List Int} (h : rsignB ks i s msg tp = true) : Hid (true = R_RingSign_1 ks i s msg tp ∧ R_RingSign_0 ks i s msg tp = emakeL ks i.toNat s (rchal ks msg (emakeL ks i.toNat s 0 tp)) tp) := Lib.hid ⟨h.symm, by unfold R_RingSign_0; rw [if_pos h]⟩
theorem rs_chal {ks : List Int} {i s : Int} {msg tp : List Int} (h : rsignB ks i s msg tp = true) : Hid (mixB (msg ++ ks ++ comsP (emakeL ks i.toNat s 0 tp)) = true) := Lib.hid (by
  unfold rsignB emakeB at h
  simp only [Bool.and_eq_true] at h
  obtain ⟨⟨hk, _⟩, hm⟩ := h
  have h1 : mixB msg = true := mixB_nums (by simp only [msgB, Bool.and_eq_true] at hm; exact hm.2)
  have h2 : mixB ks = true := mixB_els (by simp only [keysB, Bool.and_eq_true] at hk; exact hk.2)
  rw [mixB_append, mixB_append, h1, h2, mixB_make]; rfl)
theorem rs_emake {ks : List Int} {i s : Int} {msg tp : List Int} (h : rsignB ks i s msg tp = true) : Hid (R_EitherMake_1 ks i s (rchal ks msg (emakeL ks i.toNat s 0 tp)) tp = true ∧ R_EitherMake_0 ks i s (rchal ks msg (emakeL ks i.toNat s 0 tp)) tp = emakeL ks i.toNat s (rchal ks msg (emakeL ks i.toNat s 0 tp)) tp) := by
  have hb : emakeB ks i s (rchal ks msg (emakeL ks i.toNat s 0 tp)) tp = true := by
    unfold rsignB emakeB at h
    unfold emakeB
    simp only [Bool.and_eq_true] at h ⊢
    exact ⟨h.1.1, h.1.2.1, (numB_iff _).2 (rchal_bd _ _ _), h.1.2.2.2⟩
  exact Lib.hid ⟨hb, by unfold R_EitherMake_0; rw [if_pos hb]⟩

set_option maxHeartbeats 4000000 in
theorem X_i_RingSign (v v1 v2 : Value) (ks : List Int) (i s : Int) (msg tp : List Int) (w : World) (h : RdIntS w w.heap.size v ks) (h1 : RdIntS w w.heap.size v1 msg) (h2 : RdIntS w w.heap.size v2 tp) (hs : szIntS ks ≤ 1048576) (hs1 : szIntS msg ≤ 1048576) (hs2 : szIntS tp ≤ 1048576) :
    Calls Try.prog 19 #[v, .int .i64 i, .int .i64 s, v1, v2] w fun e w' => ∃ g, e = .returned (.tuple #[g, .bool (R_RingSign_1 ks i s msg tp)]) ∧ OwProofS w' w.heap.size w'.heap.size g (R_RingSign_0 ks i s msg tp) ∧ Below w.heap.size w w' := by
  have HM : ∀ (W : World) (ch : Int), Hid (Below w.heap.size w W → Calls Try.prog 12 #[v, .int .i64 i, .int .i64 s, .int .i64 ch, v2] W fun e w' => ∃ g, e = .returned (.tuple #[g, .bool (R_EitherMake_1 ks i s ch tp)]) ∧ OwProofS w' W.heap.size w'.heap.size g (R_EitherMake_0 ks i s ch tp) ∧ Below W.heap.size W w') := fun W ch => Lib.hid fun hb => X_i_EitherMake v v2 ks i s ch tp W ((h.below hb).more hb.size) ((h2.below hb).more hb.size) hs hs2
  obtain ⟨A, n, c, rfl, _, h⟩ := h
  obtain ⟨A1, n1, c1, rfl, _, h1⟩ := h1
  obtain ⟨A2, n2, c2, rfl, _, h2⟩ := h2
  have HL := Lib.hid h.len
  have HL1 := Lib.hid h1.len
  have hn : n ≤ 1048576 := by have := HL.out; unfold szIntS at hs; omega
  have hn1 : n1 ≤ 1048576 := by have := HL1.out; unfold szIntS at hs1; omega
  have H := Lib.hid h
  have H1 := Lib.hid h1
  clear h h1 h2 hs hs1 hs2
  have HM0 := Lib.hid ((HM w 0).out (Below.refl _ _))
  cases he : emakeB ks i s 0 tp
  · have HF := rs_no (ks := ks) (i := i) (s := s) (msg := msg) (tp := tp) (by unfold rsignB; rw [he]; rfl)
    have HE : Hid (R_EitherMake_1 ks i s 0 tp = false) := Lib.hid he
    rw [HE.out] at HM0
    clear he HE HM
    go_enter Try.func19, Try.ntmps19
    go_wp2_with fail
    refine HM0.out.mono ?_
    rintro e w1 ⟨g, rfl, ho, hb⟩
    have HB1 := Lib.hid hb
    clear ho hb
    go_wp2
    go_ret2
    exact ⟨_, ret_vb5 HF.out.1, by rw [HF.out.2]; exact OwProofS.nil5 _ _ _, HB1.out⟩
  have HE : Hid (R_EitherMake_1 ks i s 0 tp = true ∧ R_EitherMake_0 ks i s 0 tp = emakeL ks i.toNat s 0 tp) := Lib.hid ⟨he, by unfold R_EitherMake_0; rw [if_pos he]⟩
  have HK6 : Hid (ks.length ≤ 6) := Lib.hid (by
    have hk : keysB ks = true := by unfold emakeB at he; simp only [Bool.and_eq_true] at he; exact he.1
    exact (keysB_len hk).2)
  rw [HE.out.1, HE.out.2] at HM0
  have HEB := Lib.hid he
  clear he HE
  go_enter Try.func19, Try.ntmps19
  go_wp2_with fail
  refine HM0.out.mono ?_
  rintro e w1 ⟨g, rfl, ho, hb⟩
  obtain ⟨_, A3, n3, c3, rfl, ow⟩ := ho
  have HOW := Lib.hid ow
  have HB1 := Lib.hid hb
  have z1 := HB1.out.size
  have hn3 : n3 ≤ 1048576 := by have := HOW.out.Prooflen; rw [emakeL_length] at this; have := HK6.out; omega
  clear hb ow HM0
  go_wp2_with fail
  refine (i_messageOk A1 n1 c1 msg w1 ((H1.out.below HB1.out).more z1) hn1).mono ?_
  rintro e w' ⟨rfl, rfl⟩
  cases hm : msgB msg
  · have HF := rs_no (ks := ks) (i := i) (s := s) (msg := msg) (tp := tp) (by unfold rsignB; rw [hm]; simp)
    clear hm HM
    go_wp2
    go_ret2
    exact ⟨_, ret_vb5 HF.out.1, by rw [HF.out.2]; exact OwProofS.nil5 _ _ _, HB1.out⟩
  have HRS : Hid (rsignB ks i s msg tp = true) := Lib.hid (by unfold rsignB; rw [HEB.out, hm]; rfl)
  have HF := rs_yes HRS.out
  have HMX := rs_chal HRS.out
  have HEM := rs_emake HRS.out
  clear hm HEB HRS
  go_wp2_with fail
  refine (i_ringSigning A n c ks A1 n1 c1 msg A3 n3 c3 (emakeL ks i.toNat s 0 tp) w1 ((H.out.below HB1.out).more z1) ((H1.out.below HB1.out).more z1) HOW.out.rd hn hn1 hn3).mono ?_
  rintro e w2 ⟨Ar, cr, rfl, hr, hb⟩
  have HR := Lib.hid hr
  have HB2 : Hid (Below w.heap.size w w2) := Lib.hid (HB1.out.trans (hb.mono z1))
  have HM2 := Lib.hid ((HM w2 (rchal ks msg (emakeL ks i.toNat s 0 tp))).out HB2.out)
  rw [HEM.out.1, HEM.out.2] at HM2
  have HMV : Hid (mixV (msg ++ ks ++ comsP (emakeL ks i.toNat s 0 tp)) = rchal ks msg (emakeL ks i.toNat s 0 tp)) := Lib.hid (by unfold mixV rchal; rw [if_pos HMX.out])
  clear hr hb HM HEM HMX
  go_wp2_with fail
  rw [field_sigP]
  go_wp2_with fail
  refine (i_mixChal Ar (n1 + n + n3) cr _ w2 HR.out (by omega)).mono ?_
  rintro e w' ⟨rfl, rfl⟩
  rw [HMV.out]
  clear HR HMV
  go_wp2_with fail
  refine HM2.out.mono ?_
  rintro e w3 ⟨g, rfl, ho, hb⟩
  have HB3 : Hid (Below w.heap.size w w3) := Lib.hid (HB2.out.trans (hb.mono HB2.out.size))
  have HO3 : Hid (OwProofS w3 w.heap.size w3.heap.size g (R_RingSign_0 ks i s msg tp)) := Lib.hid (by rw [HF.out.2]; exact ⟨ho.1, by obtain ⟨_, A4, n4, c4, e4, o4⟩ := ho; exact ⟨A4, n4, c4, e4, o4.widen HB2.out.size (Nat.le_refl _)⟩⟩)
  obtain ⟨_, A4, n4, c4, rfl, _⟩ := ho
  clear hb HM2
  go_wp2
  go_ret2
  exact ⟨_, ret_vb5 HF.out.1, HO3.out, HB3.out⟩

set_option maxHeartbeats 4000000 in
theorem X_s_RingSign (v v1 v2 : Value) (ks : List Int) (i s : Int) (msg tp : List Int) (w : World) (h : RdIntS w w.heap.size v ks) (h1 : RdIntS w w.heap.size v1 msg) (h2 : RdIntS w w.heap.size v2 tp) (hs : szIntS ks ≤ 1048576) (hs1 : szIntS msg ≤ 1048576) (hs2 : szIntS tp ≤ 1048576) :
    Calls Try.prog 18 #[v, .int .i64 i, .int .i64 s, v1, v2] w fun e w' => ∃ g, e = .returned (.tuple #[g, .bool (R_RingSign_1 ks i s msg tp)]) ∧ OwProofS w' w.heap.size w'.heap.size g (R_RingSign_0 ks i s msg tp) ∧ Below w.heap.size w w' := by
  have HM : ∀ (W : World) (ch : Int), Hid (Below w.heap.size w W → Calls Try.prog 10 #[v, .int .i64 i, .int .i64 s, .int .i64 ch, v2] W fun e w' => ∃ g, e = .returned (.tuple #[g, .bool (R_EitherMake_1 ks i s ch tp)]) ∧ OwProofS w' W.heap.size w'.heap.size g (R_EitherMake_0 ks i s ch tp) ∧ Below W.heap.size W w') := fun W ch => Lib.hid fun hb => X_s_EitherMake v v2 ks i s ch tp W ((h.below hb).more hb.size) ((h2.below hb).more hb.size) hs hs2
  obtain ⟨A, n, c, rfl, _, h⟩ := h
  obtain ⟨A1, n1, c1, rfl, _, h1⟩ := h1
  obtain ⟨A2, n2, c2, rfl, _, h2⟩ := h2
  have HL := Lib.hid h.len
  have HL1 := Lib.hid h1.len
  have hn : n ≤ 1048576 := by have := HL.out; unfold szIntS at hs; omega
  have hn1 : n1 ≤ 1048576 := by have := HL1.out; unfold szIntS at hs1; omega
  have H := Lib.hid h
  have H1 := Lib.hid h1
  clear h h1 h2 hs hs1 hs2
  have HM0 := Lib.hid ((HM w 0).out (Below.refl _ _))
  cases he : emakeB ks i s 0 tp
  · have HF := rs_no (ks := ks) (i := i) (s := s) (msg := msg) (tp := tp) (by unfold rsignB; rw [he]; rfl)
    have HE : Hid (R_EitherMake_1 ks i s 0 tp = false) := Lib.hid he
    rw [HE.out] at HM0
    clear he HE HM
    go_enter Try.func18, Try.ntmps18
    go_wp2_with fail
    refine HM0.out.mono ?_
    rintro e w1 ⟨g, rfl, ho, hb⟩
    have HB1 := Lib.hid hb
    clear ho hb
    go_wp2
    go_ret2
    exact ⟨_, ret_vb5 HF.out.1, by rw [HF.out.2]; exact OwProofS.nil5 _ _ _, HB1.out⟩
  have HE : Hid (R_EitherMake_1 ks i s 0 tp = true ∧ R_EitherMake_0 ks i s 0 tp = emakeL ks i.toNat s 0 tp) := Lib.hid ⟨he, by unfold R_EitherMake_0; rw [if_pos he]⟩
  have HK6 : Hid (ks.length ≤ 6) := Lib.hid (by
    have hk : keysB ks = true := by unfold emakeB at he; simp only [Bool.and_eq_true] at he; exact he.1
    exact (keysB_len hk).2)
  rw [HE.out.1, HE.out.2] at HM0
  have HEB := Lib.hid he
  clear he HE
  go_enter Try.func18, Try.ntmps18
  go_wp2_with fail
  refine HM0.out.mono ?_
  rintro e w1 ⟨g, rfl, ho, hb⟩
  obtain ⟨_, A3, n3, c3, rfl, ow⟩ := ho
  have HOW := Lib.hid ow
  have HB1 := Lib.hid hb
  have z1 := HB1.out.size
  have hn3 : n3 ≤ 1048576 := by have := HOW.out.Prooflen; rw [emakeL_length] at this; have := HK6.out; omega
  clear hb ow HM0
  go_wp2_with fail
  refine (s_l16Message A1 n1 c1 msg w1 ((H1.out.below HB1.out).more z1) hn1).mono ?_
  rintro e w' ⟨rfl, rfl⟩
  cases hm : msgB msg
  · have HF := rs_no (ks := ks) (i := i) (s := s) (msg := msg) (tp := tp) (by unfold rsignB; rw [hm]; simp)
    clear hm HM
    go_wp2
    go_ret2
    exact ⟨_, ret_vb5 HF.out.1, by rw [HF.out.2]; exact OwProofS.nil5 _ _ _, HB1.out⟩
  have HRS : Hid (rsignB ks i s msg tp = true) := Lib.hid (by unfold rsignB; rw [HEB.out, hm]; rfl)
  have HF := rs_yes HRS.out
  have HMX := rs_chal HRS.out
  have HEM := rs_emake HRS.out
  clear hm HEB HRS
  go_wp2_with fail
  refine (s_l16Chal A1 n1 c1 msg A n c ks A3 n3 c3 (emakeL ks i.toNat s 0 tp) w1 ((H.out.below HB1.out).more z1) ((H1.out.below HB1.out).more z1) HOW.out.rd hn hn1 hn3).mono ?_
  rintro e w2 ⟨ch, rfl, hch, hb⟩
  have HB2 : Hid (Below w.heap.size w w2) := Lib.hid (HB1.out.trans (hb.mono z1))
  have HM2 := Lib.hid ((HM w2 (rchal ks msg (emakeL ks i.toNat s 0 tp))).out HB2.out)
  rw [HEM.out.1, HEM.out.2] at HM2
  obtain rfl := hch.out HMX.out
  clear hch hb HM HEM HMX
  go_wp2_with fail
  refine HM2.out.mono ?_
  rintro e w3 ⟨g, rfl, ho, hb⟩
  have HB3 : Hid (Below w.heap.size w w3) := Lib.hid (HB2.out.trans (hb.mono HB2.out.size))
  have HO3 : Hid (OwProofS w3 w.heap.size w3.heap.size g (R_RingSign_0 ks i s msg tp)) := Lib.hid (by rw [HF.out.2]; exact ⟨ho.1, by obtain ⟨_, A4, n4, c4, e4, o4⟩ := ho; exact ⟨A4, n4, c4, e4, o4.widen HB2.out.size (Nat.le_refl _)⟩⟩)
  obtain ⟨_, A4, n4, c4, rfl, _⟩ := ho
  clear hb HM2
  go_wp2
  go_ret2
  exact ⟨_, ret_vb5 HF.out.1, HO3.out, HB3.out⟩
end Go.Proofs.Ytdhakbpimbadgaa

/- Chapter 16: LinkSign of the program. Made by tools/gen15/t.py. -/
namespace Go.Proofs.Ytdhakbpimbadgaa
open Go.RowKit
set_option maxRecDepth 100000

abbrev R_LinkSign_0 := lsignT
theorem lks_no {ks : List Int} {i s : Int} {msg tp : List Int} (h : lsignB ks i s msg tp = false) : Hid (R_LinkSign_2 ks i s msg tp = false ∧ R_LinkSign_0 ks i s msg tp = 0 ∧ R_LinkSign_1 ks i s msg tp = []) := Lib.hid ⟨h, by unfold R_LinkSign_0 lsignT; rw [h]; rfl, by unfold R_LinkSign_1; rw [h]; rfl⟩
theorem lks_yes {ks : List Int} {i s : Int} {msg tp : List Int} (h : lsignB ks i s msg tp = true) : Hid (R_LinkSign_2 ks i s msg tp = true ∧ R_LinkSign_0 ks i s msg tp = powI 9 s 227 ∧ R_LinkSign_1 ks i s msg tp = lmakeL ks (powI 9 s 227) i.toNat s (lchal ks msg (powI 9 s 227) (lmakeL ks (powI 9 s 227) i.toNat s 0 tp)) tp) := Lib.hid ⟨h, by unfold R_LinkSign_0 lsignT; rw [if_pos h], by unfold R_LinkSign_1; rw [if_pos h]⟩
theorem powI_bd9 (n : Int) : 0 ≤ powI 9 n 227 ∧ powI 9 n 227 ≤ 226 := ⟨powI_lo 9 n 227, powI_hi 9 n 227 (by decide)⟩
theorem el_9 : elB 9 = true := by decide +kernel
theorem mixB_makeT (ks : List Int) (tag : Int) (q : Nat) (s ch : Int) (tp : List Int) : mixB (comsT (lmakeL ks tag q s ch tp)) = true := by
  unfold mixB
  rw [List.all_eq_true]
  intro x hx
  unfold comsT at hx
  rw [List.mem_flatMap] at hx
  obtain ⟨p, hp, hx⟩ := hx
  rw [decide_eq_true_eq]
  have hb : (0 ≤ p.1 ∧ p.1 ≤ 226) ∧ (0 ≤ p.2.1 ∧ p.2.1 ≤ 226) := by
    unfold lmakeL at hp
    rcases List.mem_or_eq_of_mem_set hp with hp | rfl
    · rw [List.mem_map] at hp
      obtain ⟨j, _, rfl⟩ := hp
      exact ⟨backI_bd _ _ _ _, backI_bd _ _ _ _⟩
    · exact ⟨powI_bd4 _, powI_bd9 _⟩
  simp only [List.mem_cons, List.not_mem_nil, or_false] at hx
  rcases hx with rfl | rfl
  · exact hb.1
  · exact hb.2
theorem lmake_list {ks tp : List Int} {q n : Nat} {s ch : Int} (hl : ks.length = n) (ht : tp.length = 2 * n) (hq : q < n) (hnu : numsB tp = true) (hs : 0 ≤ s ∧ s ≤ 112) (hc : 0 ≤ ch ∧ ch ≤ 112) (hown : powI 4 s 227 = ks.getD q 0) :
    ((List.range n).map (lotherT ks (powI 9 s 227) tp)).set q (backI 4 (ks.getD q 0) ((tp.getD (2 * q) 0 + restK tp q ch n * s) % 113) (restK tp q ch n), backI 9 (powI 9 s 227) ((tp.getD (2 * q) 0 + restK tp q ch n * s) % 113) (restK tp q ch n), restK tp q ch n, (tp.getD (2 * q) 0 + restK tp q ch n * s) % 113) = lmakeL ks (powI 9 s 227) q s ch tp := by
  have hr := restK_bd (tp := tp) (i := q) hc n
  have htb := numsB_at5 hnu (k := 2 * q) (by omega)
  have h4 := made_is (b := 4) (s := s) (n := tp.getD (2 * q) 0) (c := restK tp q ch n) el_4 hs htb.1 hr
  have h9 := made_is (b := 9) (s := s) (n := tp.getD (2 * q) 0) (c := restK tp q ch n) el_9 hs htb.1 hr
  rw [Int.add_emod_emod] at h4 h9
  unfold lmakeL lownT
  rw [hl, ← hown, h4, h9]
theorem ow_of_bx {w : World} {g lo n : Nat} {l : List Tw} (h : Bx w g (cTwin l).toArray 76) (hg : lo ≤ g) (hl : l.length = n) : Ow w lo w.heap.size 76 4 (some ⟨g, 0, none⟩) n n (cTwin l) :=
  ⟨by rw [cTwin_length, hl], Nat.le_refl _, .inr ⟨g, _, rfl, hg, h.lt, h, by rw [List.take_of_length_le (by rw [cTwin_length, hl]; exact Nat.le_refl _)]⟩⟩

set_option maxHeartbeats 8000000 in
theorem X_i_LinkSign (v v1 v2 : Value) (ks : List Int) (i s : Int) (msg tp : List Int) (w : World) (h : RdIntS w w.heap.size v ks) (h1 : RdIntS w w.heap.size v1 msg) (h2 : RdIntS w w.heap.size v2 tp) (hs : szIntS ks ≤ 1048576) (hs1 : szIntS msg ≤ 1048576) (hs2 : szIntS tp ≤ 1048576) :
    Calls Try.prog 21 #[v, .int .i64 i, .int .i64 s, v1, v2] w fun e w' => ∃ g, e = .returned (.tuple #[.int .i64 (R_LinkSign_0 ks i s msg tp), g, .bool (R_LinkSign_2 ks i s msg tp)]) ∧ OwTwinS w' w.heap.size w'.heap.size g (R_LinkSign_1 ks i s msg tp) ∧ Below w.heap.size w w' := by
  obtain ⟨A, n, c, rfl, _, h⟩ := h
  obtain ⟨A1, n1, c1, rfl, _, h1⟩ := h1
  obtain ⟨A2, n2, c2, rfl, _, h2⟩ := h2
  have HL := Lib.hid h.len
  have HL1 := Lib.hid h1.len
  have HL2 := Lib.hid h2.len
  have hn : n ≤ 1048576 := by have := HL.out; unfold szIntS at hs; omega
  have hn1 : n1 ≤ 1048576 := by have := HL1.out; unfold szIntS at hs1; omega
  have hn2 : n2 ≤ 1048576 := by have := HL2.out; unfold szIntS at hs2; omega
  have H := Lib.hid h
  have H1 := Lib.hid h1
  have H2 := Lib.hid h2
  clear h h1 h2 hs hs1 hs2
  obtain ⟨W0, hW0⟩ : ∃ W, Hid ((w.alloc (.cells #[.slice A n c] 22)).alloc (.cells #[.int .i64 i, .int .i64 s] 60) = W) := ⟨_, Lib.hid rfl⟩
  have HB0 : Hid (Below w.heap.size w W0) := Lib.hid (by rw [← hW0.out]; exact ((Below.refl _ _).alloc (Nat.le_refl _) _).alloc (by simp only [World.size_alloc]; omega) _)
  have HK0 : Hid (Bx W0 w.heap.size #[.slice A n c] 22) := Lib.hid (by rw [← hW0.out]; exact (Bx.new _ _ _).alloc _)
  have HX0 : Hid (Bx W0 (w.heap.size + 1) #[.int .i64 i, .int .i64 s] 60) := Lib.hid (by rw [← hW0.out]; have := Bx.new (w.alloc (.cells #[.slice A n c] 22)) #[.int .i64 i, .int .i64 s] 60; simp only [World.size_alloc] at this; exact this)
  have z0 := HB0.out.size
  have k0 : W0.cell? ⟨w.heap.size, 0, none⟩ = some (.slice A n c) := HK0.out.cell 0
  have f0 : W0.cell? ⟨w.heap.size + 1, 0, none⟩ = some (.int .i64 i) := HX0.out.cell 0
  have f1 : W0.cell? ⟨w.heap.size + 1, 1, none⟩ = some (.int .i64 s) := HX0.out.cell 1
  go_enter Try.func21, Try.ntmps21
  go_upto_region 2 with (fail)
  rw [hW0.out]
  clear hW0
  go_wp2_with fail
  refine (i_keysOk A n c ks W0 ((H.out.below HB0.out).more z0) hn).mono ?_
  rintro e w' ⟨rfl, rfl⟩
  cases hk : keysB ks
  · clear H1 H2
    have HF := lks_no (ks := ks) (i := i) (s := s) (msg := msg) (tp := tp) (by unfold lsignB emakeB; rw [hk]; rfl)
    go_wp2
    go_ret3
    exact ⟨.slice none 0 0, by rw [HF.out.1, HF.out.2.1]; rfl, by rw [HF.out.2.2]; exact OwTwinS.nil_ _ _ _, HB0.out⟩
  go_wp2_with fail
  refine (i_known_ok A n c ks i s W0 ((H.out.below HB0.out).more z0) hn).mono ?_
  rintro e w2 ⟨rfl, hb⟩
  have HB2 : Hid (Below w.heap.size w w2) := Lib.hid (HB0.out.trans (hb.mono z0))
  have HX2 := Lib.hid (HX0.out.below hb HX0.out.lt)
  have HK2 := Lib.hid (HK0.out.below hb HK0.out.lt)
  have z2 := HB2.out.size
  clear k0 f0 f1 hb HB0 HX0 HK0 z0
  cases ho : ownB ks i s
  · clear H1 H2
    have HF := lks_no (ks := ks) (i := i) (s := s) (msg := msg) (tp := tp) (by unfold lsignB emakeB; rw [ho]; simp)
    go_wp2
    go_ret3
    exact ⟨.slice none 0 0, by rw [HF.out.1, HF.out.2.1]; rfl, by rw [HF.out.2.2]; exact OwTwinS.nil_ _ _ _, HB2.out⟩
  go_wp2_with fail
  refine (i_messageOk A1 n1 c1 msg w2 ((H1.out.below HB2.out).more z2) hn1).mono ?_
  rintro e w' ⟨rfl, rfl⟩
  cases hm : msgB msg
  · clear H1 H2
    have HF := lks_no (ks := ks) (i := i) (s := s) (msg := msg) (tp := tp) (by unfold lsignB; rw [hm]; simp)
    go_wp2
    go_ret3
    exact ⟨.slice none 0 0, by rw [HF.out.1, HF.out.2.1]; rfl, by rw [HF.out.2.2]; exact OwTwinS.nil_ _ _ _, HB2.out⟩
  have hk6 := keysB_len hk
  rw [HL.out] at hk6
  have iw : IntKind.i64.wrap (2 * (n : Int)) = 2 * (n : Int) := IntWalk.i64_in _ (by omega)
  have k2 : w2.cell? ⟨w.heap.size, 0, none⟩ = some (.slice A n c) := HK2.out.cell 0
  have f0 : w2.cell? ⟨w.heap.size + 1, 0, none⟩ = some (.int .i64 i) := HX2.out.cell 0
  have f1 : w2.cell? ⟨w.heap.size + 1, 1, none⟩ = some (.int .i64 s) := HX2.out.cell 1
  go_wp2_with fail
  refine (i_manyNumbers A2 n2 c2 tp (2 * (n : Int)) w2 ((H2.out.below HB2.out).more z2) hn2).mono ?_
  rintro e w' ⟨rfl, rfl⟩
  cases ht : (decide ((n2 : Int) = 2 * (n : Int)) && numsB tp)
  · have hx : (decide (tp.length = 2 * ks.length) && numsB tp) = false := by
      rw [← ht, HL.out, HL2.out]; congr 1; rw [decide_eq_decide]; omega
    clear H1 H2
    have HF := lks_no (ks := ks) (i := i) (s := s) (msg := msg) (tp := tp) (by unfold lsignB emakeB; rw [hx]; simp)
    go_wp2
    go_ret3
    exact ⟨.slice none 0 0, by rw [HF.out.1, HF.out.2.1]; rfl, by rw [HF.out.2.2]; exact OwTwinS.nil_ _ _ _, HB2.out⟩
  simp only [Bool.and_eq_true, decide_eq_true_eq] at ht
  obtain ⟨hnt, hnu⟩ := ht
  have HNT : Hid (n2 = 2 * n) := Lib.hid (by omega)
  have HLS : Hid (lsignB ks i s msg tp = true) := Lib.hid (by
    unfold lsignB emakeB; rw [hk, ho, hm, hnu, show numB 0 = true from by decide +kernel]
    simp only [Bool.true_and, Bool.and_true, decide_eq_true_eq]
    rw [HL.out, HL2.out]; exact HNT.out)
  have HF := lks_yes HLS.out
  obtain ⟨⟨i0, i1⟩, ⟨s0, s1⟩, hown⟩ := ownB_at ho
  obtain ⟨q, rfl⟩ := Int.eq_ofNat_of_zero_le i0
  rw [Int.toNat_natCast] at HF hown
  rw [HL.out] at i1
  have hq : q < n := by omega
  have HEL : Hid (elsB ks = true) := Lib.hid (by simp only [keysB, Bool.and_eq_true] at hk; exact hk.2)
  obtain ⟨tag, htag⟩ : ∃ t, Hid (powI 9 s 227 = t) := ⟨_, Lib.hid rfl⟩
  have HTB : Hid (0 ≤ tag ∧ tag ≤ 226) := Lib.hid (by rw [← htag.out]; exact powI_bd9 s)
  have HTG : Hid (Calls Try.prog 59 #[.int .i64 s] w2 fun e w' => e = .returned (.int .i64 tag) ∧ w2 = w') := Lib.hid (by rw [← htag.out]; exact i_tagOf s w2 s0 s1)
  have HMX : ∀ ch, Hid (mixB (msg ++ ks ++ [tag] ++ comsT (lmakeL ks tag q s ch tp)) = true) := fun ch => Lib.hid (by
    have m1 : mixB msg = true := mixB_nums (by simp only [msgB, Bool.and_eq_true] at hm; exact hm.2)
    have m2 : mixB ks = true := mixB_els HEL.out
    have m3 : mixB [tag] = true := by have := HTB.out; simp [mixB, this]
    rw [mixB_append, mixB_append, mixB_append, m1, m2, m3, mixB_makeT]; rfl)
  have HLIST : ∀ ch, 0 ≤ ch → ch ≤ 112 → Hid (((List.range n).map (lotherT ks tag tp)).set q (backI 4 (ks.getD q 0) ((tp.getD (2 * q) 0 + restK tp q ch n * s) % 113) (restK tp q ch n), backI 9 tag ((tp.getD (2 * q) 0 + restK tp q ch n * s) % 113) (restK tp q ch n), restK tp q ch n, (tp.getD (2 * q) 0 + restK tp q ch n * s) % 113) = lmakeL ks tag q s ch tp) := fun ch ch0 ch1 => Lib.hid (by
    rw [← htag.out]; exact lmake_list HL.out (by rw [HL2.out]; exact HNT.out) hq hnu ⟨s0, s1⟩ ⟨ch0, ch1⟩ hown)
  have HNU := Lib.hid hnu
  rw [htag.out] at HF
  have hn6 : n ≤ 6 := hk6.2
  clear hk ho hm hnu hnt hown HLS htag hk6 i0
  go_wp2_with fail
  refine HTG.out.mono ?_
  rintro e w' ⟨rfl, rfl⟩
  clear HTG
  obtain ⟨W3, hW3⟩ : ∃ W, Hid (w2.alloc (.cells #[.int .i64 tag] 3) = W) := ⟨_, Lib.hid rfl⟩
  have HB3 : Hid (Below w.heap.size w W3) := Lib.hid (by rw [← hW3.out]; exact HB2.out.alloc z2 _)
  have hb23 : Below w2.heap.size w2 W3 := by rw [← hW3.out]; exact (Below.refl _ _).alloc (Nat.le_refl _) _
  have HX3 := Lib.hid (HX2.out.below hb23 HX2.out.lt)
  have HK3 := Lib.hid (HK2.out.below hb23 HK2.out.lt)
  have HT3 : Hid (Bx W3 w2.heap.size #[.int .i64 tag] 3) := Lib.hid (by rw [← hW3.out]; exact Bx.new _ _ _)
  have z3 := HB3.out.size
  have zlt := HX2.out.lt
  have HPB : ∀ (W : World) (ch : Int), Hid (Below W3.heap.size W3 W → 0 ≤ ch → ch ≤ 112 → Calls Try.prog 63 #[.agg #[.int .i64 (q : Nat), .int .i64 s], .int .i64 ch, .slice A2 n2 c2, .func (.func 60) #[] #[.pointer (some ⟨w.heap.size, 0, none⟩), .pointer (some ⟨w2.heap.size, 0, none⟩)]] W fun e w' => ∃ g, e = .returned (.slice (some ⟨g, 0, none⟩) n n) ∧ W.heap.size ≤ g ∧ Bx w' g (cTwin (lmakeL ks tag q s ch tp)).toArray 76 ∧ Below W.heap.size W w') := fun W ch => Lib.hid fun hb ch0 ch1 => by
    have hbw : Below w.heap.size w W := HB3.out.trans (hb.mono z3)
    have hr := i_proofsByT w.heap.size w2.heap.size n q n2 c2 A2 ks tp tag s ch W (fun V k cc r hbV hkn cc0 cc1 r0 r1 => by
      have hel := elB_range (elsB_el HEL.out (k := k) (by have := HL.out; omega))
      have hV : Below W3.heap.size W3 V := hb.trans (hbV.mono hb.size)
      exact i_feignT w.heap.size w2.heap.size A n c k ks (ks.getD k 0) cc r tag V (HK3.out.below hV HK3.out.lt) (HT3.out.below hV HT3.out.lt) ((H.out.below (HB3.out.trans (hV.mono z3))).more (HB3.out.trans (hV.mono z3)).size) hkn rfl cc0 cc1 r0 r1 (by omega) (by omega) HTB.out.1 HTB.out.2) hn6 HNT.out ((H2.out.below hbw).more hbw.size) HNU.out hq s0 s1 ch0 ch1
    rw [(HLIST ch ch0 ch1).out] at hr
    exact hr
  go_upto_region 6 with (fail)
  rw [hW3.out]
  have f0 : W3.cell? ⟨w.heap.size + 1, 0, none⟩ = some (.int .i64 (q : Nat)) := HX3.out.cell 0
  have f1 : W3.cell? ⟨w.heap.size + 1, 1, none⟩ = some (.int .i64 s) := HX3.out.cell 1
  clear hW3 hb23 k2 HX2 HK2 HLIST HEL HNT HNU HTB
  have HP0 := Lib.hid ((HPB W3 0).out (Below.refl _ _) (by omega) (by omega))
  go_wp2_with fail
  refine HP0.out.mono ?_
  rintro e w4 ⟨g, rfl, hg, hbx, hb4⟩
  have HL0 : Hid ((lmakeL ks tag q s 0 tp).length = n) := Lib.hid (by rw [lmakeL_length, HL.out])
  have HOW := Lib.hid (ow_of_bx hbx (Nat.le_trans z3 hg) HL0.out)
  have HB4 : Hid (Below w.heap.size w w4) := Lib.hid (HB3.out.trans (hb4.mono z3))
  have HX4 := Lib.hid (HX3.out.below hb4 HX3.out.lt)
  have HK4 := Lib.hid (HK3.out.below hb4 HK3.out.lt)
  have HT4 := Lib.hid (HT3.out.below hb4 HT3.out.lt)
  have HB34 := Lib.hid hb4
  have z4 := HB4.out.size
  clear hb4 hbx hg f0 f1 HP0
  have g0 : w4.cell? ⟨w.heap.size, 0, none⟩ = some (.slice A n c) := HK4.out.cell 0
  have g1 : w4.cell? ⟨w2.heap.size, 0, none⟩ = some (.int .i64 tag) := HT4.out.cell 0
  go_wp2_with fail
  clear g0 g1
  refine (i_linkSigning tag A n c ks A1 n1 c1 msg (some ⟨g, 0, none⟩) n n (lmakeL ks tag q s 0 tp) w4 ((H.out.below HB4.out).more z4) ((H1.out.below HB4.out).more z4) HOW.out.rd hn hn1 hn).mono ?_
  rintro e w5 ⟨Ar, cr, rfl, hr, hb5⟩
  have HR := Lib.hid hr
  have HB5 : Hid (Below w.heap.size w w5) := Lib.hid (HB4.out.trans (hb5.mono z4))
  have HB35 : Hid (Below W3.heap.size W3 w5) := Lib.hid (HB34.out.trans (hb5.mono HB34.out.size))
  have HX5 := Lib.hid (HX4.out.below hb5 HX4.out.lt)
  have HT5 := Lib.hid (HT4.out.below hb5 HT4.out.lt)
  have z5 := HB5.out.size
  have HMV : Hid (mixV (msg ++ ks ++ [tag] ++ comsT (lmakeL ks tag q s 0 tp)) = lchal ks msg tag (lmakeL ks tag q s 0 tp)) := Lib.hid (by unfold mixV lchal; rw [if_pos (HMX 0).out])
  clear hr hb5 HB34 HX4 HK4 HT4 HOW HMX
  go_wp2_with fail
  rw [field_sigT]
  go_wp2_with fail
  refine (i_mixChal Ar (n1 + n + 1 + 2 * n) cr _ w5 HR.out (by omega)).mono ?_
  rintro e w' ⟨rfl, rfl⟩
  rw [HMV.out]
  clear HR HMV
  have hcb := lchal_bd ks msg tag (lmakeL ks tag q s 0 tp)
  obtain ⟨cz, hcz⟩ : ∃ z, Hid (lchal ks msg tag (lmakeL ks tag q s 0 tp) = z) := ⟨_, Lib.hid rfl⟩
  rw [hcz.out] at hcb HF
  rw [hcz.out]
  obtain ⟨cz0, cz1⟩ := hcb
  have HP8 : Hid (∀ W, Below w5.heap.size w5 W → Calls Try.prog 63 #[.agg #[.int .i64 (q : Nat), .int .i64 s], .int .i64 cz, .slice A2 n2 c2, .func (.func 60) #[] #[.pointer (some ⟨w.heap.size, 0, none⟩), .pointer (some ⟨w2.heap.size, 0, none⟩)]] W fun e w' => ∃ g, e = .returned (.slice (some ⟨g, 0, none⟩) n n) ∧ (W.heap.size ≤ g ∧ Bx w' g (cTwin (lmakeL ks tag q s cz tp)).toArray 76) ∧ Below W.heap.size W w') := Lib.hid fun W hb => ((HPB W cz).out (HB35.out.trans (hb.mono HB35.out.size)) cz0 cz1).mono fun e w' ⟨g, h1, h2, h3, h4⟩ => ⟨g, h1, ⟨h2, h3⟩, h4⟩
  have HL8 : Hid ((lmakeL ks tag q s cz tp).length = n) := Lib.hid (by rw [lmakeL_length, HL.out])
  have HX_kn := HX5
  have HX_tg := HT5
  have HB : Hid (Below w5.heap.size w5 w5) := Lib.hid (Below.refl _ _)
  have zlt5 := HX5.out.lt
  have zlt6 := HT5.out.lt
  clear HPB HX3 HK3 HT3 HB3 HB4 HX5 HT5 HB2 hcz H H1 H2 HB35
  go_upto_region 8 with (fail)
  refine wp_region_held_drew (S := fun w' => w'.cell? ⟨(w.heap.size + 1), 0, none⟩ = some (.int .i64 (q : Nat)) ∧ w'.cell? ⟨(w.heap.size + 1), 1, none⟩ = some (.int .i64 s) ∧ w'.cell? ⟨w2.heap.size, 0, none⟩ = some (.int .i64 tag)) (by kernel_rfl) ⟨HX_kn.out.cell 0, HX_kn.out.cell 1, HX_tg.out.cell 0⟩ (fun hHeld => ?_)
  obtain ⟨u0, hu0⟩ : ∃ u0, Hid (w5.drew = u0) := ⟨_, Lib.hid rfl⟩
  rw [hu0.out] at hHeld ⊢
  have zs0 : w5.heap.size = u0.heap.size := by rw [← hu0.out]; rfl
  replace zs0 := Nat.le_of_eq zs0
  have HBl0 : Hid (Below w5.heap.size w5 u0) := Lib.hid (by rw [← hu0.out]; exact HB.out.drew)
  have HX_kn0 : Hid (Bx u0 (w.heap.size + 1) #[.int .i64 (q : Nat), .int .i64 s] 60) := Lib.hid (by rw [← hu0.out]; exact HX_kn.out)
  have HX_tg0 : Hid (Bx u0 w2.heap.size #[.int .i64 tag] 3) := Lib.hid (by rw [← hu0.out]; exact HX_tg.out)
  clear hu0
  refine wpAnyH_take (i := 0) (oi := { dst := some 58, op := Op.load 3 (Operand.tmp 14), type := 3, pos := "l16_rings.go:122", after := #[], guard := none }) (v := ?_) rfl (by kernel_rfl) (by kernel_rfl) (by kernel_rfl) (fun _ _ _ h => h) (Or.inl ⟨by rfl, ?_⟩) hHeld ?_
  rotate_left
  · intro w hSw; obtain ⟨s0, s1, s2⟩ := hSw; (try dsimp only at hSw); go_simp; (try with_reducible rfl)
  try simp only [Act.put, List.setIfInBounds_toArray, List.set_cons_zero, List.set_cons_succ]
  refine wpAnyH_take (i := 1) (oi := { dst := some 59, op := Op.load 60 (Operand.tmp 13), type := 60, pos := "l16_rings.go:122", after := #[], guard := none }) (v := ?_) rfl (by kernel_rfl) (by kernel_rfl) (by kernel_rfl) (fun _ _ _ h => h) (Or.inl ⟨by rfl, ?_⟩) hHeld ?_
  rotate_left
  · intro w hSw; obtain ⟨s0, s1, s2⟩ := hSw; (try dsimp only at hSw); go_simp; (try with_reducible rfl)
  try simp only [Act.put, List.setIfInBounds_toArray, List.set_cons_zero, List.set_cons_succ]
  refine wpAnyH_take (i := 2) (oi := { dst := some 60, op := Op.move (Operand.tmp 17), type := 3, pos := "l16_rings.go:122", after := #[], guard := none }) (v := ?_) rfl (by kernel_rfl) (by kernel_rfl) (by kernel_rfl) (fun _ _ _ h => h) (Or.inl ⟨by rfl, ?_⟩) hHeld ?_
  rotate_left
  · intro w hSw; obtain ⟨s0, s1, s2⟩ := hSw; (try dsimp only at hSw); go_simp; (try with_reducible rfl)
  try simp only [Act.put, List.setIfInBounds_toArray, List.set_cons_zero, List.set_cons_succ]
  refine wpAnyH_take (i := 3) (oi := { dst := some 61, op := Op.move (Operand.tmp 4), type := 22, pos := "l16_rings.go:122", after := #[], guard := none }) (v := ?_) rfl (by kernel_rfl) (by kernel_rfl) (by kernel_rfl) (fun _ _ _ h => h) (Or.inl ⟨by rfl, ?_⟩) hHeld ?_
  rotate_left
  · intro w hSw; obtain ⟨s0, s1, s2⟩ := hSw; (try dsimp only at hSw); go_simp; (try with_reducible rfl)
  try simp only [Act.put, List.setIfInBounds_toArray, List.set_cons_zero, List.set_cons_succ]
  refine wpAnyH_take (i := 4) (oi := { dst := some 62, op := Op.move (Operand.tmp 15), type := 86, pos := "l16_rings.go:122", after := #[], guard := none }) (v := ?_) rfl (by kernel_rfl) (by kernel_rfl) (by kernel_rfl) (fun _ _ _ h => h) (Or.inl ⟨by rfl, ?_⟩) hHeld ?_
  rotate_left
  · intro w hSw; obtain ⟨s0, s1, s2⟩ := hSw; (try dsimp only at hSw); go_simp; (try with_reducible rfl)
  try simp only [Act.put, List.setIfInBounds_toArray, List.set_cons_zero, List.set_cons_succ]
  refine wpAnyH_ready (rs := [5]) (by kernel_rfl) (by simp) ?_
  refine AllReadyH.cons (o := { dst := some 63, op := Op.call { callee := Callee.value (Operand.func 63), args := #[Operand.tmp 59, Operand.tmp 60, Operand.tmp 61, Operand.tmp 62], argTypes := #[60, 58, 22, 121] }, type := 34, pos := "l16_rings.go:122", after := #[{ on := 1, ground := Ground.data }, { on := 2, ground := Ground.data }, { on := 3, ground := Ground.data }, { on := 4, ground := Ground.data }], guard := none }) rfl (fun K hK => ?_) ?_
  · go_simp
    refine ((HP8.out u0 HBl0.out)).mono ?_
    rintro e u1 ⟨g8, rfl, h_8, hb_⟩
    have zs1 : u0.heap.size ≤ u1.heap.size := hb_.size
    have HBl1 : Hid (Below w5.heap.size w5 u1) := Lib.hid (HBl0.out.trans (hb_.mono HBl0.out.size))
    have HX_kn1 : Hid (Bx u1 (w.heap.size + 1) #[.int .i64 (q : Nat), .int .i64 s] 60) := Lib.hid (HX_kn0.out.below hb_ HX_kn0.out.lt)
    have HX_tg1 : Hid (Bx u1 w2.heap.size #[.int .i64 tag] 3) := Lib.hid (HX_tg0.out.below hb_ HX_tg0.out.lt)
    clear hHeld hb_ HBl0 HX_kn0 HX_tg0
    have HG8 : Hid (w5.heap.size ≤ g8 ∧ Bx u1 g8 (cTwin (lmakeL ks tag q s cz tp)).toArray 76) := Lib.hid ⟨by have := h_8.1; omega, h_8.2⟩
    clear h_8
    (try dsimp only)
    (try go_wp2_with fail)
    refine hK.out _ _ ⟨HX_kn1.out.cell 0, HX_kn1.out.cell 1, HX_tg1.out.cell 0⟩ (fun hHeld => ?_)
    clear hK K
    try simp only [Act.put, List.setIfInBounds_toArray, List.set_cons_zero, List.set_cons_succ]
    refine wpAnyH_take (i := 6) (oi := { dst := some 10, op := Op.assign (Operand.tmp 58), type := 3, pos := "l16_rings.go:122", after := #[{ on := 0, ground := Ground.data }, { on := 5, ground := Ground.chain }, { on := 0, ground := Ground.phase }, { on := 1, ground := Ground.textOnly Departure.lateStores }, { on := 2, ground := Ground.textOnly Departure.lateStores }, { on := 3, ground := Ground.textOnly Departure.lateStores }, { on := 4, ground := Ground.textOnly Departure.lateStores }, { on := 5, ground := Ground.textOnly Departure.lateStoresUnsure }], guard := none }) (v := ?_) rfl (by kernel_rfl) (by kernel_rfl) (by kernel_rfl) (fun _ _ _ h => h) (Or.inl ⟨by rfl, ?_⟩) hHeld ?_
    rotate_left
    · intro w hSw; obtain ⟨s0, s1, s2⟩ := hSw; (try dsimp only at hSw); go_simp; (try with_reducible rfl)
    try simp only [Act.put, List.setIfInBounds_toArray, List.set_cons_zero, List.set_cons_succ]
    refine wpAnyH_take (i := 7) (oi := { dst := some 11, op := Op.assign (Operand.tmp 63), type := 34, pos := "l16_rings.go:122", after := #[{ on := 5, ground := Ground.data }, { on := 6, ground := Ground.chain }, { on := 0, ground := Ground.phase }, { on := 1, ground := Ground.phase }, { on := 2, ground := Ground.phase }, { on := 3, ground := Ground.phase }, { on := 4, ground := Ground.phase }, { on := 5, ground := Ground.phase }, { on := 6, ground := Ground.phase }], guard := none }) (v := ?_) rfl (by kernel_rfl) (by kernel_rfl) (by kernel_rfl) (fun _ _ _ h => h) (Or.inl ⟨by rfl, ?_⟩) hHeld ?_
    rotate_left
    · intro w hSw; obtain ⟨s0, s1, s2⟩ := hSw; (try dsimp only at hSw); go_simp; (try with_reducible rfl)
    try simp only [Act.put, List.setIfInBounds_toArray, List.set_cons_zero, List.set_cons_succ]
    refine wpAnyH_take (i := 8) (oi := { dst := some 12, op := Op.assign (Operand.const (Value.bool true)), type := 4, pos := "l16_rings.go:122", after := #[{ on := 7, ground := Ground.chain }, { on := 0, ground := Ground.phase }, { on := 1, ground := Ground.phase }, { on := 2, ground := Ground.phase }, { on := 3, ground := Ground.phase }, { on := 4, ground := Ground.phase }, { on := 5, ground := Ground.phase }, { on := 6, ground := Ground.phase }, { on := 7, ground := Ground.phase }], guard := none }) (v := ?_) rfl (by kernel_rfl) (by kernel_rfl) (by kernel_rfl) (fun _ _ _ h => h) (Or.inl ⟨by rfl, ?_⟩) hHeld ?_
    rotate_left
    · intro w hSw; obtain ⟨s0, s1, s2⟩ := hSw; (try dsimp only at hSw); go_simp; (try with_reducible rfl)
    try simp only [Act.put, List.setIfInBounds_toArray, List.set_cons_zero, List.set_cons_succ]
    refine wpAnyH_done (by kernel_rfl) ?_ _
    go_wp2
    go_ret3
    have zz := HB5.out.size
    refine ⟨_, by rw [HF.out.1, HF.out.2.1]; rfl, ?_, HB5.out.trans (HBl1.out.mono z5)⟩
    rw [HF.out.2.2]
    exact ⟨by rw [HL8.out]; omega, _, _, _, rfl, ow_of_bx (lo := w.heap.size) HG8.out.2 (by have := HG8.out.1; omega) HL8.out⟩
  exact AllReadyH.nil
end Go.Proofs.Ytdhakbpimbadgaa

/- Chapter 16: LinkSign of the model. Made by tools/gen15/u.py. -/
namespace Go.Proofs.Ytdhakbpimbadgaa
open Go.RowKit
set_option maxRecDepth 100000

theorem el_tag {s : Int} (h : 0 ≤ s) : elB (powI 9 s 227) = true := by
  obtain ⟨B, _, e⟩ := el_E4 el_9
  obtain ⟨k, rfl⟩ := Int.eq_ofNat_of_zero_le h
  rw [e, powI_E4]; exact E4_el _
/-- the list behind the first k rounds -/
def preT (ks : List Int) (tag : Int) (tp : List Int) (q : Nat) (s : Int) (k : Nat) : List Tw := (List.range k).map fun j => if j = q then lownT s (tp.getD (2 * q) 0) 0 else lotherT ks tag tp j
theorem preT_succ (ks : List Int) (tag : Int) (tp : List Int) (q : Nat) (s : Int) (k : Nat) : preT ks tag tp q s (k + 1) = preT ks tag tp q s k ++ [if k = q then lownT s (tp.getD (2 * q) 0) 0 else lotherT ks tag tp k] := by simp [preT, List.range_succ]
theorem preT_len (ks : List Int) (tag : Int) (tp : List Int) (q : Nat) (s : Int) (k : Nat) : (preT ks tag tp q s k).length = k := by simp [preT]
theorem preT_set (ks : List Int) (tag : Int) (tp : List Int) (q : Nat) (s : Int) (n : Nat) (v : Tw) : (preT ks tag tp q s n).set q v = ((List.range n).map (lotherT ks tag tp)).set q v := by
  apply List.ext_getElem?
  intro j
  rw [List.getElem?_set, List.getElem?_set, preT_len, List.length_map, List.length_range]
  by_cases h : q = j
  · rw [if_pos h, if_pos h]
  · rw [if_neg h, if_neg h]
    unfold preT
    rw [List.getElem?_map, List.getElem?_map]
    by_cases h2 : j < n
    · rw [List.getElem?_range h2]; show some _ = some _; dsimp only; rw [if_neg (fun e : j = q => h e.symm)]
    · rw [List.getElem?_eq_none (by rw [List.length_range]; omega)]; rfl
theorem preT_self {ks : List Int} {tag : Int} {tp : List Int} {q : Nat} {s : Int} {n : Nat} (hq : q < n) : preT ks tag tp q s n = (preT ks tag tp q s n).set q (lownT s (tp.getD (2 * q) 0) 0) := by
  apply List.ext_getElem?
  intro j
  rw [List.getElem?_set, preT_len]
  by_cases h : q = j
  · subst h
    rw [if_pos rfl, if_pos hq]
    unfold preT
    rw [List.getElem?_map, List.getElem?_range hq]
    show some _ = some _
    dsimp only
    rw [if_pos rfl]
  · rw [if_neg h]
theorem preT_coms {ks : List Int} {tag : Int} {tp : List Int} {q : Nat} {s ch : Int} {n : Nat} (hl : ks.length = n) (hq : q < n) : comsT (preT ks tag tp q s n) = comsT (lmakeL ks tag q s ch tp) := by
  rw [preT_self hq, preT_set]
  unfold lmakeL
  rw [hl]
  exact comsT_set _ _ _ _ rfl
theorem lit4_at {w : World} {B e : Nat} {u v x y : Value} (h : w.heap[B]? = some (.cells #[u, v, x, y] e (0, 0))) : Rd w (B + 1) 4 (some ⟨B, 0, none⟩) 1 [u, v, x, y] :=
  ⟨rfl, fun _ => ⟨_, rfl, Nat.lt_succ_self _, fun j z hz => by
    have hj : j < 4 := by have := (List.getElem?_eq_some_iff.1 hz).1; simpa using this
    rw [add_zero_head, cell_of_row w B j _ _ _ h]
    simpa using hz⟩⟩
theorem cTwin_one (ps : List Tw) : ∀ u ∈ cTwin ps, u.oneCell' = true := by
  intro u hu
  simp only [cTwin, List.mem_flatMap] at hu
  obtain ⟨p, _, hp⟩ := hu
  simp only [List.mem_cons, List.not_mem_nil, or_false] at hp
  rcases hp with rfl | rfl | rfl | rfl <;> rfl
theorem cTwin_app (a b : List Tw) : cTwin (a ++ b) = cTwin a ++ cTwin b := by
  induction a with
  | nil => rfl
  | cons p t ih => rw [List.cons_append, cTwin_cons, cTwin_cons, ih]; rfl
theorem ow_row4 {w : World} {lo hi e n c g k : Nat} {L : List Tw} (h : Ow w lo hi e 4 (some ⟨g, 0, none⟩) n c (cTwin L)) (hk : k < n) :
    (∃ u, w.cell? ⟨g, k * 4, none⟩ = some u) ∧ (∃ u, w.cell? ⟨g, k * 4 + 1, none⟩ = some u) ∧ (∃ u, w.cell? ⟨g, k * 4 + 2, none⟩ = some u) ∧ (∃ u, w.cell? ⟨g, k * 4 + 3, none⟩ = some u) ∧ ∀ j, w.frozen? ⟨g, j, none⟩ = false := by
  have hl : (cTwin L).length = n * 4 := h.1
  exact ⟨⟨_, h.cellAt (List.getElem?_eq_getElem (by omega))⟩, ⟨_, h.cellAt (List.getElem?_eq_getElem (by omega))⟩, ⟨_, h.cellAt (List.getElem?_eq_getElem (by omega))⟩, ⟨_, h.cellAt (List.getElem?_eq_getElem (by omega))⟩, fun j => h.free (by omega) j⟩
theorem s_feignT (k l c r : Int) (w : World) (hk : elB k = true) (hl : elB l = true) (c0 : 0 ≤ c) (c1 : c ≤ 112) (r0 : 0 ≤ r) (r1 : r ≤ 112) :
    Calls Try.prog 55 #[.agg #[.int .i64 4, .int .i64 9], .agg #[.int .i64 k, .int .i64 l], .int .i64 c, .int .i64 r] w fun e w' => e = .returned (.tuple #[.agg #[.int .i64 (backI 4 k r c), .int .i64 (backI 9 l r c), .int .i64 c, .int .i64 r], .bool true]) ∧ Below w.heap.size w w' := by
  have h := X_s_TwinFeign 4 9 k l c r w
  have hb : twinFB 4 9 k l c r = true := by simp only [twinFB, Bool.and_eq_true]; exact ⟨⟨el_4, el_9⟩, ⟨hk, hl⟩, (numB_iff c).2 ⟨c0, c1⟩, (numB_iff r).2 ⟨r0, r1⟩⟩
  unfold tfeignD at h
  rw [if_pos hb, hb] at h
  exact h
theorem s_makeT (s n c : Int) (w : World) (s0 : 0 ≤ s) (s1 : s ≤ 112) (n0 : 0 ≤ n) (n1 : n ≤ 112) (c0 : 0 ≤ c) (c1 : c ≤ 112) :
    Calls Try.prog 57 #[.agg #[.int .i64 4, .int .i64 9], .int .i64 s, .int .i64 n, .int .i64 c] w fun e w' => e = .returned (.tuple #[.agg #[.int .i64 (powI 4 n 227), .int .i64 (powI 9 n 227), .int .i64 c, .int .i64 ((n + c * s) % 113)], .bool true]) ∧ Below w.heap.size w w' := by
  have h := X_s_TwinMake 4 9 s n c w
  have hb : tmakeB 4 9 s n c = true := by simp only [tmakeB, makeB, Bool.and_eq_true]; exact ⟨⟨el_4, el_9⟩, (numB_iff s).2 ⟨s0, s1⟩, (numB_iff n).2 ⟨n0, n1⟩, (numB_iff c).2 ⟨c0, c1⟩⟩
  unfold tmakeD at h
  rw [if_pos hb, hb] at h
  exact h

set_option maxHeartbeats 8000000 in
theorem X_s_LinkSign (v v1 v2 : Value) (ks : List Int) (i s : Int) (msg tp : List Int) (w : World) (h : RdIntS w w.heap.size v ks) (h1 : RdIntS w w.heap.size v1 msg) (h2 : RdIntS w w.heap.size v2 tp) (hs : szIntS ks ≤ 1048576) (hs1 : szIntS msg ≤ 1048576) (hs2 : szIntS tp ≤ 1048576) :
    Calls Try.prog 20 #[v, .int .i64 i, .int .i64 s, v1, v2] w fun e w' => ∃ g, e = .returned (.tuple #[.int .i64 (R_LinkSign_0 ks i s msg tp), g, .bool (R_LinkSign_2 ks i s msg tp)]) ∧ OwTwinS w' w.heap.size w'.heap.size g (R_LinkSign_1 ks i s msg tp) ∧ Below w.heap.size w w' := by
  obtain ⟨A, n, c, rfl, _, h⟩ := h
  obtain ⟨A1, n1, c1, rfl, _, h1⟩ := h1
  obtain ⟨A2, n2, c2, rfl, _, h2⟩ := h2
  have HL := Lib.hid h.len
  have HL1 := Lib.hid h1.len
  have HL2 := Lib.hid h2.len
  have hn : n ≤ 1048576 := by have := HL.out; unfold szIntS at hs; omega
  have hn1 : n1 ≤ 1048576 := by have := HL1.out; unfold szIntS at hs1; omega
  have hn2 : n2 ≤ 1048576 := by have := HL2.out; unfold szIntS at hs2; omega
  have H := Lib.hid h
  have H1 := Lib.hid h1
  have H2 := Lib.hid h2
  clear h h1 h2 hs hs1 hs2
  go_enter Try.func20, Try.ntmps20
  go_wp2_with fail
  refine (s_l15Knows A n c ks i s w H.out hn).mono ?_
  rintro e w1 ⟨rfl, hst⟩
  have HB1 : Hid (Below w.heap.size w w1) := Lib.hid (hst.below _)
  have z1 := HB1.out.size
  clear hst
  cases hko : keysB ks && ownB ks i s
  · have HF := lks_no (ks := ks) (i := i) (s := s) (msg := msg) (tp := tp) (by cases a1 : keysB ks <;> cases a2 : ownB ks i s <;> simp_all [lsignB, emakeB])
    clear H H1 H2
    go_wp2
    go_ret3
    exact ⟨.slice none 0 0, by rw [HF.out.1, HF.out.2.1]; rfl, by rw [HF.out.2.2]; exact OwTwinS.nil_ _ _ _, HB1.out⟩
  have hko2 := hko
  simp only [Bool.and_eq_true] at hko2
  have HKO := Lib.hid hko2
  clear hko hko2
  go_wp2_with fail
  refine (s_l16Message A1 n1 c1 msg w1 ((H1.out.below HB1.out).more z1) hn1).mono ?_
  rintro e w' ⟨rfl, rfl⟩
  cases hm : msgB msg
  · have HF := lks_no (ks := ks) (i := i) (s := s) (msg := msg) (tp := tp) (by unfold lsignB; rw [hm]; simp)
    clear H H1 H2
    go_wp2
    go_ret3
    exact ⟨.slice none 0 0, by rw [HF.out.1, HF.out.2.1]; rfl, by rw [HF.out.2.2]; exact OwTwinS.nil_ _ _ _, HB1.out⟩
  have tw0 : IntKind.i64.wrap (2 * (n : Int)) = 2 * (n : Int) := IntWalk.i64_in _ (by omega)
  by_cases hnn : n2 = 2 * n
  rotate_left
  · have e1 : ((n2 : Int) != 2 * (n : Int)) = true := by rw [bne_iff_ne]; omega
    have e2 : ¬ (n2 : Int) = 2 * (n : Int) := by omega
    have HF := lks_no (ks := ks) (i := i) (s := s) (msg := msg) (tp := tp) (by unfold lsignB emakeB; rw [HL.out, HL2.out]; simp [hnn])
    clear H H1 H2
    go_wp2
    go_ret3
    exact ⟨.slice none 0 0, by rw [HF.out.1, HF.out.2.1]; rfl, by rw [HF.out.2.2]; exact OwTwinS.nil_ _ _ _, HB1.out⟩
  subst hnn
  go_wp2_with fail
  refine (s_l1In A2 (2 * n) c2 tp w1 ((H2.out.below HB1.out).more z1) hn2).mono ?_
  rintro e w' ⟨rfl, rfl⟩
  cases ht : numsB tp
  · have HF := lks_no (ks := ks) (i := i) (s := s) (msg := msg) (tp := tp) (by unfold lsignB emakeB; rw [ht]; simp)
    clear H H1 H2
    go_wp2
    go_ret3
    exact ⟨.slice none 0 0, by rw [HF.out.1, HF.out.2.1]; rfl, by rw [HF.out.2.2]; exact OwTwinS.nil_ _ _ _, HB1.out⟩
  have HF := lks_yes (ks := ks) (i := i) (s := s) (msg := msg) (tp := tp) (by unfold lsignB emakeB; rw [HKO.out.1, HKO.out.2, hm, ht, HL.out, HL2.out, show numB 0 = true from by decide +kernel]; simp)
  have hk6 := keysB_len HKO.out.1
  have hown := ownB_at HKO.out.2
  rw [HL.out] at hk6 hown
  obtain ⟨⟨i0, i1⟩, ⟨s0, s1⟩, _⟩ := hown
  obtain ⟨q, rfl⟩ := Int.eq_ofNat_of_zero_le i0
  rw [Int.toNat_natCast] at HF
  have HEL : Hid (elsB ks = true) := Lib.hid (by have := HKO.out.1; simp only [keysB, Bool.and_eq_true] at this; exact this.2)
  have HNU := Lib.hid ht
  obtain ⟨tag, htag⟩ : ∃ t, Hid (powI 9 s 227 = t) := ⟨_, Lib.hid rfl⟩
  have HTE : Hid (elB tag = true) := Lib.hid (by rw [← htag.out]; exact el_tag s0)
  have HMX : Hid (mixB (msg ++ ks ++ [tag] ++ comsT (preT ks tag tp q s n)) = true ∧ lchal ks msg tag (preT ks tag tp q s n) = lchal ks msg tag (lmakeL ks tag q s 0 tp)) := Lib.hid (by
    have m1 : mixB msg = true := mixB_nums (by simp only [msgB, Bool.and_eq_true] at hm; exact hm.2)
    have m2 : mixB ks = true := mixB_els HEL.out
    have m3 : mixB [tag] = true := by have := powI_bd9 s; rw [htag.out] at this; simp [mixB, this]
    have hc := preT_coms (ks := ks) (tag := tag) (tp := tp) (s := s) (ch := 0) HL.out (show q < n by omega)
    exact ⟨by rw [mixB_append, mixB_append, mixB_append, m1, m2, m3, hc, mixB_makeT]; rfl, by unfold lchal; rw [hc]⟩)
  have HTG : Hid (Calls Try.prog 54 #[.int .i64 9, .int .i64 s] w1 fun e w' => e = .returned (.int .i64 tag) ∧ w1 = w') := Lib.hid (by rw [← htag.out]; exact s_l1Pow 9 s w1 (by omega) (by omega) s0 (by omega))
  rw [htag.out] at HF
  clear ht hm HKO htag
  go_wp2_with fail
  refine HTG.out.mono ?_
  rintro e w' ⟨rfl, rfl⟩
  clear HTG
  have H0 : Hid ((w1.alloc (.cells #[] 76)).ownsRow w.heap.size 76 4 (.slice (some ⟨w1.heap.size, 0, none⟩) 0 0) 0 (cTwin (preT ks tag tp q s 0))) := Lib.hid (own_wide (own_empty w1 _ 4) z1)
  have HB0 : Hid (Below w.heap.size w (w1.alloc (.cells #[] 76))) := Lib.hid (HB1.out.alloc z1 _)
  go_wp2
  clear HB1
  go_loopw [14, 15, 16] (fun out rest i wr => ∃ (k : Nat) (Ao : Option Addr) (co : Nat) (re : Int), k ≤ n ∧ i = .int .i64 k ∧ out = .slice Ao k co ∧ rest = .int .i64 re ∧ 0 ≤ re ∧ re ≤ 112 ∧ Hid (re = othK tp q k) ∧ Hid (wr.ownsRow w.heap.size 76 4 (.slice Ao k co) k (cTwin (preT ks tag tp q s k))) ∧ Hid (Below w.heap.size w wr)) (fun _ _ i _ => n - (intOf i).toNat)
  case atStart => exact ⟨0, _, 0, 0, Nat.zero_le _, rfl, rfl, rfl, by omega, by omega, Lib.hid rfl, H0, HB0⟩
  case round =>
    clear H0 HB0
    obtain ⟨k, Ao, co, re, hk, rfl, rfl, rfl, re0, re1, HRE, HO, HBw⟩ := hrel
    by_cases hlt : k < n
    · obtain ⟨J, HJ⟩ : ∃ J, Hid (J = 2 * k) := ⟨_, Lib.hid rfl⟩
      have hJ1 : J + 1 < 2 * n := by have := HJ.out; omega
      obtain ⟨a, kv, rfl, hab, hkv0, HKV⟩ := H.out.intAt hlt
      obtain ⟨b, t0, rfl, hbb, ht0, HT0⟩ := H2.out.intAt (show J < 2 * n by omega)
      obtain ⟨b2, t1, eb, _, ht1, HT1⟩ := H2.out.intAt hJ1
      injection eb with eb
      subst eb
      rw [add_succ5] at ht1
      have hzw := HBw.out.size
      have hba : (a.add k).block < wr.heap.size := by rw [add_block]; omega
      have hbb1 : (b.add J).block < wr.heap.size := by rw [add_block]; omega
      have hbb2 : b.block < wr.heap.size := by omega
      have HKA := Lib.hid ((HBw.out.cell (p := a.add k) (by rw [add_block]; exact hab)).trans hkv0)
      have HTA := Lib.hid ((HBw.out.cell (p := b.add J) (by rw [add_block]; exact hbb)).trans ht0)
      have HTB := Lib.hid ((HBw.out.cell (p := ⟨b.block, b.off + (J + 1), none⟩) hbb).trans ht1)
      have tb0 := numsB_at5 HNU.out (k := J) (by have := HL2.out; omega)
      have tb1 := numsB_at5 HNU.out (k := J + 1) (by have := HL2.out; omega)
      rw [← HT0.out] at tb0
      rw [← HT1.out] at tb1
      obtain ⟨t00, t01⟩ := tb0
      obtain ⟨t10, t11⟩ := tb1
      have hel : elB kv = true := by rw [HKV.out]; exact elsB_el HEL.out (by have := HL.out; omega)
      have HOT : Hid (preT ks tag tp q s (k + 1) = preT ks tag tp q s k ++ [if k = q then lownT s t0 0 else (backI 4 kv t1 t0, backI 9 tag t1 t0, t0, t1)]) := Lib.hid (by
        rw [preT_succ]
        by_cases e : k = q
        · rw [if_pos e, if_pos e, ← e, ← HJ.out, ← HT0.out]
        · rw [if_neg e, if_neg e, lotherT, ← HJ.out, ← HKV.out, ← HT0.out, ← HT1.out])
      have HRS : Hid (othK tp q (k + 1) = if k = q then re else (re + t0) % 113) := Lib.hid (by rw [othK, ← HJ.out, ← HT0.out, ← HRE.out])
      obtain ⟨bk, hbk⟩ : ∃ v, Hid (backI 4 kv t1 t0 = v) := ⟨_, Lib.hid rfl⟩
      obtain ⟨bh, hbh⟩ : ∃ v, Hid (backI 9 tag t1 t0 = v) := ⟨_, Lib.hid rfl⟩
      have HFE := fun W => Lib.hid (s_feignT kv tag t0 t1 W hel HTE.out t00 t01 t10 t11)
      rw [hbk.out, hbh.out] at HOT
      simp only [hbk.out, hbh.out] at HFE
      have HBA := fun W => Lib.hid (s_linkBase W)
      have iw : IntKind.i64.wrap (2 * (k : Int)) = (J : Int) := by
        have := HJ.out
        have e : (J : Int) = 2 * (k : Int) := by omega
        rw [e]; exact IntWalk.i64_in _ (by omega)
      have iw2 : IntKind.i64.wrap ((J : Int) + 1) = (J : Int) + 1 := IntWalk.i64_in _ (by omega)
      have it2 : ((J : Int) + 1).toNat = J + 1 := by omega
      have i0 : (0 : Int) ≤ (k : Int) := by omega
      have i1 : (k : Int) < (n : Int) := by omega
      have i2 : (0 : Int) ≤ (J : Int) := by omega
      have i3 : (J : Int) < 2 * (n : Int) := by omega
      have i4 : (0 : Int) ≤ (J : Int) + 1 := by omega
      have i5 : (J : Int) + 1 < 2 * (n : Int) := by omega
      have HB : Hid (Below wr.heap.size wr wr) := Lib.hid (Below.refl _ _)
      clear hkv0 ht0 ht1 HKV HT0 HT1 hbk hbh HRE hel hJ1
      go_upto_region 9 with (fail)
      refine wp_region_held_drew (S := fun w' => w'.cell? (a.add k) = some (.int .i64 kv) ∧ w'.cell? (b.add J) = some (.int .i64 t0) ∧ w'.cell? ⟨b.block, b.off + (J + 1), none⟩ = some (.int .i64 t1)) (by kernel_rfl) ⟨(HB.out.cell (p := (a.add k)) hba).trans HKA.out, (HB.out.cell (p := (b.add J)) hbb1).trans HTA.out, (HB.out.cell (p := ⟨b.block, b.off + (J + 1), none⟩) hbb2).trans HTB.out⟩ (fun hHeld => ?_)
      obtain ⟨u0, hu0⟩ : ∃ u0, Hid (wr.drew = u0) := ⟨_, Lib.hid rfl⟩
      rw [hu0.out] at hHeld ⊢
      have zs0 : wr.heap.size = u0.heap.size := by rw [← hu0.out]; rfl
      replace zs0 := Nat.le_of_eq zs0
      have HBl0 : Hid (Below wr.heap.size wr u0) := Lib.hid (by rw [← hu0.out]; exact HB.out.drew)
      clear hu0
      refine wpAnyH_take (i := 1) (oi := { dst := some 53, op := Op.move (Operand.tmp 0), type := 22, pos := "l16_rings.go:76", after := #[], guard := none }) (v := ?_) rfl (by kernel_rfl) (by kernel_rfl) (by kernel_rfl) (fun _ _ _ h => h) (Or.inl ⟨by rfl, ?_⟩) hHeld ?_
      rotate_left
      · intro w hSw; obtain ⟨s0, s1, s2⟩ := hSw; (try dsimp only at hSw); go_simp; (try with_reducible rfl)
      try simp only [Act.put, List.setIfInBounds_toArray, List.set_cons_zero, List.set_cons_succ]
      refine wpAnyH_take (i := 2) (oi := { dst := some 54, op := Op.move (Operand.tmp 16), type := 3, pos := "l16_rings.go:76", after := #[], guard := none }) (v := ?_) rfl (by kernel_rfl) (by kernel_rfl) (by kernel_rfl) (fun _ _ _ h => h) (Or.inl ⟨by rfl, ?_⟩) hHeld ?_
      rotate_left
      · intro w hSw; obtain ⟨s0, s1, s2⟩ := hSw; (try dsimp only at hSw); go_simp; (try with_reducible rfl)
      try simp only [Act.put, List.setIfInBounds_toArray, List.set_cons_zero, List.set_cons_succ]
      refine wpAnyH_take (i := 3) (oi := { dst := some 55, op := Op.indexAddr 22 (Operand.tmp 53) (Operand.tmp 54), type := 0, pos := "l16_rings.go:76", after := #[{ on := 1, ground := Ground.data }, { on := 2, ground := Ground.data }], guard := none }) (v := ?_) rfl (by kernel_rfl) (by kernel_rfl) (by kernel_rfl) (fun _ _ _ h => h) (Or.inl ⟨by rfl, ?_⟩) hHeld ?_
      rotate_left
      · intro w hSw; obtain ⟨s0, s1, s2⟩ := hSw; (try dsimp only at hSw); go_simp; (try with_reducible rfl)
      try simp only [Act.put, List.setIfInBounds_toArray, List.set_cons_zero, List.set_cons_succ]
      refine wpAnyH_take (i := 4) (oi := { dst := some 56, op := Op.load 3 (Operand.tmp 55), type := 3, pos := "l16_rings.go:76", after := #[{ on := 3, ground := Ground.data }], guard := none }) (v := ?_) rfl (by kernel_rfl) (by kernel_rfl) (by kernel_rfl) (fun _ _ _ h => h) (Or.inl ⟨by rfl, ?_⟩) hHeld ?_
      rotate_left
      · intro w hSw; obtain ⟨s0, s1, s2⟩ := hSw; (try dsimp only at hSw); go_simp; (try with_reducible rfl)
      try simp only [Act.put, List.setIfInBounds_toArray, List.set_cons_zero, List.set_cons_succ]
      refine wpAnyH_take (i := 5) (oi := { dst := some 57, op := Op.move (Operand.tmp 13), type := 3, pos := "l16_rings.go:76", after := #[], guard := none }) (v := ?_) rfl (by kernel_rfl) (by kernel_rfl) (by kernel_rfl) (fun _ _ _ h => h) (Or.inl ⟨by rfl, ?_⟩) hHeld ?_
      rotate_left
      · intro w hSw; obtain ⟨s0, s1, s2⟩ := hSw; (try dsimp only at hSw); go_simp; (try with_reducible rfl)
      try simp only [Act.put, List.setIfInBounds_toArray, List.set_cons_zero, List.set_cons_succ]
      refine wpAnyH_take (i := 6) (oi := { dst := some 58, op := Op.build 80 #[(0, Operand.tmp 56), (1, Operand.tmp 57)], type := 80, pos := "l16_rings.go:76", after := #[{ on := 4, ground := Ground.data }, { on := 5, ground := Ground.data }], guard := none }) (v := ?_) rfl (by kernel_rfl) (by kernel_rfl) (by kernel_rfl) (fun _ _ _ h => h) (Or.inl ⟨by rfl, ?_⟩) hHeld ?_
      rotate_left
      · intro w hSw; obtain ⟨s0, s1, s2⟩ := hSw; (try dsimp only at hSw); go_simp; (try with_reducible rfl)
      try simp only [Act.put, List.setIfInBounds_toArray, List.set_cons_zero, List.set_cons_succ]
      refine wpAnyH_take (i := 7) (oi := { dst := some 59, op := Op.move (Operand.tmp 4), type := 22, pos := "l16_rings.go:76", after := #[], guard := none }) (v := ?_) rfl (by kernel_rfl) (by kernel_rfl) (by kernel_rfl) (fun _ _ _ h => h) (Or.inl ⟨by rfl, ?_⟩) hHeld ?_
      rotate_left
      · intro w hSw; obtain ⟨s0, s1, s2⟩ := hSw; (try dsimp only at hSw); go_simp; (try with_reducible rfl)
      try simp only [Act.put, List.setIfInBounds_toArray, List.set_cons_zero, List.set_cons_succ]
      refine wpAnyH_take (i := 8) (oi := { dst := some 60, op := Op.move (Operand.tmp 16), type := 3, pos := "l16_rings.go:76", after := #[], guard := none }) (v := ?_) rfl (by kernel_rfl) (by kernel_rfl) (by kernel_rfl) (fun _ _ _ h => h) (Or.inl ⟨by rfl, ?_⟩) hHeld ?_
      rotate_left
      · intro w hSw; obtain ⟨s0, s1, s2⟩ := hSw; (try dsimp only at hSw); go_simp; (try with_reducible rfl)
      try simp only [Act.put, List.setIfInBounds_toArray, List.set_cons_zero, List.set_cons_succ]
      refine wpAnyH_take (i := 9) (oi := { dst := some 61, op := Op.binOp BinOp.mul 3 (Operand.const (Value.int IntKind.i64 2)) (Operand.tmp 60) 3, type := 3, pos := "l16_rings.go:76", after := #[{ on := 8, ground := Ground.data }], guard := none }) (v := ?_) rfl (by kernel_rfl) (by kernel_rfl) (by kernel_rfl) (fun _ _ _ h => h) (Or.inl ⟨by rfl, ?_⟩) hHeld ?_
      rotate_left
      · intro w hSw; obtain ⟨s0, s1, s2⟩ := hSw; (try dsimp only at hSw); go_simp; (try with_reducible rfl)
      try simp only [Act.put, List.setIfInBounds_toArray, List.set_cons_zero, List.set_cons_succ]
      refine wpAnyH_take (i := 10) (oi := { dst := some 62, op := Op.indexAddr 22 (Operand.tmp 59) (Operand.tmp 61), type := 0, pos := "l16_rings.go:76", after := #[{ on := 7, ground := Ground.data }, { on := 9, ground := Ground.data }], guard := none }) (v := ?_) rfl (by kernel_rfl) (by kernel_rfl) (by kernel_rfl) (fun _ _ _ h => h) (Or.inl ⟨by rfl, ?_⟩) hHeld ?_
      rotate_left
      · intro w hSw; obtain ⟨s0, s1, s2⟩ := hSw; (try dsimp only at hSw); go_simp; (try with_reducible rfl)
      try simp only [Act.put, List.setIfInBounds_toArray, List.set_cons_zero, List.set_cons_succ]
      refine wpAnyH_take (i := 11) (oi := { dst := some 63, op := Op.load 3 (Operand.tmp 62), type := 3, pos := "l16_rings.go:76", after := #[{ on := 10, ground := Ground.data }], guard := none }) (v := ?_) rfl (by kernel_rfl) (by kernel_rfl) (by kernel_rfl) (fun _ _ _ h => h) (Or.inl ⟨by rfl, ?_⟩) hHeld ?_
      rotate_left
      · intro w hSw; obtain ⟨s0, s1, s2⟩ := hSw; (try dsimp only at hSw); go_simp; (try with_reducible rfl)
      try simp only [Act.put, List.setIfInBounds_toArray, List.set_cons_zero, List.set_cons_succ]
      refine wpAnyH_take (i := 12) (oi := { dst := some 64, op := Op.move (Operand.tmp 4), type := 22, pos := "l16_rings.go:76", after := #[], guard := none }) (v := ?_) rfl (by kernel_rfl) (by kernel_rfl) (by kernel_rfl) (fun _ _ _ h => h) (Or.inl ⟨by rfl, ?_⟩) hHeld ?_
      rotate_left
      · intro w hSw; obtain ⟨s0, s1, s2⟩ := hSw; (try dsimp only at hSw); go_simp; (try with_reducible rfl)
      try simp only [Act.put, List.setIfInBounds_toArray, List.set_cons_zero, List.set_cons_succ]
      refine wpAnyH_take (i := 13) (oi := { dst := some 65, op := Op.move (Operand.tmp 16), type := 3, pos := "l16_rings.go:76", after := #[], guard := none }) (v := ?_) rfl (by kernel_rfl) (by kernel_rfl) (by kernel_rfl) (fun _ _ _ h => h) (Or.inl ⟨by rfl, ?_⟩) hHeld ?_
      rotate_left
      · intro w hSw; obtain ⟨s0, s1, s2⟩ := hSw; (try dsimp only at hSw); go_simp; (try with_reducible rfl)
      try simp only [Act.put, List.setIfInBounds_toArray, List.set_cons_zero, List.set_cons_succ]
      refine wpAnyH_take (i := 14) (oi := { dst := some 66, op := Op.binOp BinOp.mul 3 (Operand.const (Value.int IntKind.i64 2)) (Operand.tmp 65) 3, type := 3, pos := "l16_rings.go:76", after := #[{ on := 13, ground := Ground.data }], guard := none }) (v := ?_) rfl (by kernel_rfl) (by kernel_rfl) (by kernel_rfl) (fun _ _ _ h => h) (Or.inl ⟨by rfl, ?_⟩) hHeld ?_
      rotate_left
      · intro w hSw; obtain ⟨s0, s1, s2⟩ := hSw; (try dsimp only at hSw); go_simp; (try with_reducible rfl)
      try simp only [Act.put, List.setIfInBounds_toArray, List.set_cons_zero, List.set_cons_succ]
      refine wpAnyH_take (i := 15) (oi := { dst := some 67, op := Op.binOp BinOp.add 3 (Operand.tmp 66) (Operand.const (Value.int IntKind.i64 1)) 3, type := 3, pos := "l16_rings.go:76", after := #[{ on := 14, ground := Ground.data }], guard := none }) (v := ?_) rfl (by kernel_rfl) (by kernel_rfl) (by kernel_rfl) (fun _ _ _ h => h) (Or.inl ⟨by rfl, ?_⟩) hHeld ?_
      rotate_left
      · intro w hSw; obtain ⟨s0, s1, s2⟩ := hSw; (try dsimp only at hSw); go_simp; (try with_reducible rfl)
      try simp only [Act.put, List.setIfInBounds_toArray, List.set_cons_zero, List.set_cons_succ]
      refine wpAnyH_take (i := 16) (oi := { dst := some 68, op := Op.indexAddr 22 (Operand.tmp 64) (Operand.tmp 67), type := 0, pos := "l16_rings.go:76", after := #[{ on := 12, ground := Ground.data }, { on := 15, ground := Ground.data }], guard := none }) (v := ?_) rfl (by kernel_rfl) (by kernel_rfl) (by kernel_rfl) (fun _ _ _ h => h) (Or.inl ⟨by rfl, ?_⟩) hHeld ?_
      rotate_left
      · intro w hSw; obtain ⟨s0, s1, s2⟩ := hSw; (try dsimp only at hSw); go_simp; (try with_reducible rfl)
      try simp only [Act.put, List.setIfInBounds_toArray, List.set_cons_zero, List.set_cons_succ]
      refine wpAnyH_take (i := 17) (oi := { dst := some 69, op := Op.load 3 (Operand.tmp 68), type := 3, pos := "l16_rings.go:76", after := #[{ on := 16, ground := Ground.data }], guard := none }) (v := ?_) rfl (by kernel_rfl) (by kernel_rfl) (by kernel_rfl) (fun _ _ _ h => h) (Or.inl ⟨by rfl, ?_⟩) hHeld ?_
      rotate_left
      · intro w hSw; obtain ⟨s0, s1, s2⟩ := hSw; (try dsimp only at hSw); go_simp; (try with_reducible rfl)
      try simp only [Act.put, List.setIfInBounds_toArray, List.set_cons_zero, List.set_cons_succ]
      refine wpAnyH_ready (rs := [0, 22]) (by kernel_rfl) (by simp) ?_
      refine AllReadyH.cons (o := { dst := some 52, op := Op.call { callee := Callee.value (Operand.func 56), args := #[], argTypes := #[] }, type := 80, pos := "l16_rings.go:76", after := #[], guard := none }) rfl (fun K hK => ?_) ?_
      · go_simp
        refine ((HBA u0).out).mono ?_
        rintro e u1 ⟨rfl, hb_⟩
        have zs1 : u0.heap.size ≤ u1.heap.size := hb_.size
        have HBl1 : Hid (Below wr.heap.size wr u1) := Lib.hid (HBl0.out.trans (hb_.mono HBl0.out.size))
        clear hHeld hb_ HBl0
        (try dsimp only)
        (try go_wp2_with fail)
        refine hK.out _ _ ⟨((HBl1.out.cell (p := (a.add k)) hba).trans HKA.out), ((HBl1.out.cell (p := (b.add J)) hbb1).trans HTA.out), ((HBl1.out.cell (p := ⟨b.block, b.off + (J + 1), none⟩) hbb2).trans HTB.out)⟩ (fun hHeld => ?_)
        clear hK K
        try simp only [Act.put, List.setIfInBounds_toArray, List.set_cons_zero, List.set_cons_succ]
        refine wpAnyH_ready (rs := [18, 22]) (by kernel_rfl) (by simp) ?_
        refine AllReadyH.cons (o := { dst := some 70, op := Op.call { callee := Callee.value (Operand.func 55), args := #[Operand.tmp 52, Operand.tmp 58, Operand.tmp 63, Operand.tmp 69], argTypes := #[80, 80, 3, 3] }, type := 77, pos := "l16_rings.go:76", after := #[{ on := 0, ground := Ground.data }, { on := 6, ground := Ground.data }, { on := 11, ground := Ground.data }, { on := 17, ground := Ground.data }, { on := 0, ground := Ground.chain }], guard := none }) rfl (fun K hK => ?_) ?_
        · go_simp
          refine ((HFE u1).out).mono ?_
          rintro e u2 ⟨rfl, hb_⟩
          have zs2 : u1.heap.size ≤ u2.heap.size := hb_.size
          have HBl2 : Hid (Below wr.heap.size wr u2) := Lib.hid (HBl1.out.trans (hb_.mono HBl1.out.size))
          clear hHeld hb_ HBl1
          (try dsimp only)
          (try go_wp2_with fail)
          refine hK.out _ _ ⟨((HBl2.out.cell (p := (a.add k)) hba).trans HKA.out), ((HBl2.out.cell (p := (b.add J)) hbb1).trans HTA.out), ((HBl2.out.cell (p := ⟨b.block, b.off + (J + 1), none⟩) hbb2).trans HTB.out)⟩ (fun hHeld => ?_)
          clear hK K
          try simp only [Act.put, List.setIfInBounds_toArray, List.set_cons_zero, List.set_cons_succ]
          refine wpAnyH_take (i := 19) (oi := { dst := some 51, op := Op.move (Operand.tmp 70), type := 77, pos := "l16_rings.go:76", after := #[{ on := 18, ground := Ground.data }], guard := none }) (v := ?_) rfl (by kernel_rfl) (by kernel_rfl) (by kernel_rfl) (fun _ _ _ h => h) (Or.inl ⟨by rfl, ?_⟩) hHeld ?_
          rotate_left
          · intro w hSw; obtain ⟨s0, s1, s2⟩ := hSw; (try dsimp only at hSw); go_simp; (try with_reducible rfl)
          try simp only [Act.put, List.setIfInBounds_toArray, List.set_cons_zero, List.set_cons_succ]
          refine wpAnyH_take (i := 20) (oi := { dst := some 71, op := Op.extract (Operand.tmp 51) 0, type := 76, pos := "l16_rings.go:76", after := #[{ on := 19, ground := Ground.data }], guard := none }) (v := ?_) rfl (by kernel_rfl) (by kernel_rfl) (by kernel_rfl) (fun _ _ _ h => h) (Or.inl ⟨by rfl, ?_⟩) hHeld ?_
          rotate_left
          · intro w hSw; obtain ⟨s0, s1, s2⟩ := hSw; (try dsimp only at hSw); go_simp; (try with_reducible rfl)
          try simp only [Act.put, List.setIfInBounds_toArray, List.set_cons_zero, List.set_cons_succ]
          refine wpAnyH_take (i := 21) (oi := { dst := some 72, op := Op.extract (Operand.tmp 51) 1, type := 4, pos := "l16_rings.go:76", after := #[{ on := 19, ground := Ground.data }, { on := 23, ground := Ground.gcOnly Departure.lateStores }], guard := none }) (v := ?_) rfl (by kernel_rfl) (by kernel_rfl) (by kernel_rfl) (fun _ _ _ h => h) (Or.inl ⟨by rfl, ?_⟩) hHeld ?_
          rotate_left
          · intro w hSw; obtain ⟨s0, s1, s2⟩ := hSw; (try dsimp only at hSw); go_simp; (try with_reducible rfl)
          try simp only [Act.put, List.setIfInBounds_toArray, List.set_cons_zero, List.set_cons_succ]
          refine wpAnyH_ready (rs := [22]) (by kernel_rfl) (by simp) ?_
          refine AllReadyH.cons (o := { dst := some 17, op := Op.alloc 76, type := 0, pos := "l16_rings.go:76", after := #[], guard := none }) rfl (fun K hK => ?_) ?_
          · go_simp
            obtain ⟨u3, hw3⟩ : ∃ W, Hid (u2.alloc (.cells #[.int .i64 0, .int .i64 0, .int .i64 0, .int .i64 0] 76) = W) := ⟨_, Lib.hid rfl⟩
            rw [hw3.out]
            have zs3 : u2.heap.size < u3.heap.size := by rw [← hw3.out, World.size_alloc]; omega
            have HBl3 : Hid (Below wr.heap.size wr u3) := Lib.hid (by rw [← hw3.out]; exact HBl2.out.alloc HBl2.out.size _)
            have HX_b3 : Hid (Bx u3 u2.heap.size #[.int .i64 0, .int .i64 0, .int .i64 0, .int .i64 0] 76) := Lib.hid (by rw [← hw3.out]; exact Bx.new _ _ _)
            have hab3 : Below u2.heap.size u2 u3 := by rw [← hw3.out]; exact (Below.refl _ _).alloc (Nat.le_refl _) _
            clear hHeld hw3 hab3 HBl2
            refine hK.out _ _ ⟨((HBl3.out.cell (p := (a.add k)) hba).trans HKA.out), ((HBl3.out.cell (p := (b.add J)) hbb1).trans HTA.out), ((HBl3.out.cell (p := ⟨b.block, b.off + (J + 1), none⟩) hbb2).trans HTB.out)⟩ (fun hHeld => ?_)
            clear hK K
            try simp only [Act.put, List.setIfInBounds_toArray, List.set_cons_zero, List.set_cons_succ]
            refine wpAnyH_ready (rs := [23]) (by kernel_rfl) (by simp) ?_
            refine AllReadyH.cons (o := { dst := none, op := Op.store 76 (Operand.tmp 17) (Operand.tmp 71), type := 0, pos := "l16_rings.go:76", after := #[{ on := 22, ground := Ground.data }, { on := 20, ground := Ground.data }, { on := 18, ground := Ground.chain }, { on := 0, ground := Ground.phase }, { on := 1, ground := Ground.phase }, { on := 2, ground := Ground.phase }, { on := 3, ground := Ground.phase }, { on := 4, ground := Ground.phase }, { on := 5, ground := Ground.phase }, { on := 6, ground := Ground.phase }, { on := 7, ground := Ground.phase }, { on := 8, ground := Ground.phase }, { on := 9, ground := Ground.phase }, { on := 10, ground := Ground.phase }, { on := 11, ground := Ground.phase }, { on := 12, ground := Ground.phase }, { on := 13, ground := Ground.phase }, { on := 14, ground := Ground.phase }, { on := 15, ground := Ground.phase }, { on := 16, ground := Ground.phase }, { on := 17, ground := Ground.phase }, { on := 18, ground := Ground.phase }, { on := 19, ground := Ground.phase }, { on := 20, ground := Ground.phase }, { on := 21, ground := Ground.textOnly Departure.lateStores }, { on := 22, ground := Ground.phase }], guard := none }) rfl (fun K hK => ?_) ?_
            · have xc0 : u3.cell? ⟨u2.heap.size, 0, none⟩ = some (.int .i64 0) := HX_b3.out.cell 0
              have xf0 : u3.frozen? ⟨u2.heap.size, 0, none⟩ = false := HX_b3.out.free 0
              have xc1 : u3.cell? ⟨u2.heap.size, 1, none⟩ = some (.int .i64 0) := HX_b3.out.cell 1
              have xf1 : u3.frozen? ⟨u2.heap.size, 1, none⟩ = false := HX_b3.out.free 1
              have xc2 : u3.cell? ⟨u2.heap.size, 2, none⟩ = some (.int .i64 0) := HX_b3.out.cell 2
              have xf2 : u3.frozen? ⟨u2.heap.size, 2, none⟩ = false := HX_b3.out.free 2
              have xc3 : u3.cell? ⟨u2.heap.size, 3, none⟩ = some (.int .i64 0) := HX_b3.out.cell 3
              have xf3 : u3.frozen? ⟨u2.heap.size, 3, none⟩ = false := HX_b3.out.free 3
              go_simp
              obtain ⟨u4, hw4⟩ : ∃ W, Hid (((((u3.setCell ⟨u2.heap.size, 0, none⟩ (.int .i64 bk)).setCell ⟨u2.heap.size, 1, none⟩ (.int .i64 bh)).setCell ⟨u2.heap.size, 2, none⟩ (.int .i64 t0)).setCell ⟨u2.heap.size, 3, none⟩ (.int .i64 t1)) = W) := ⟨_, Lib.hid rfl⟩
              rw [hw4.out]
              have hk4 : Kept (u2.heap.size) (u2.heap.size + 1) u3 u4 := by rw [← hw4.out]; exact ((((Kept.refl _ _ _).setCell (p := ⟨u2.heap.size, 0, none⟩) (Nat.le_refl _) (Nat.lt_succ_self _) _).setCell (p := ⟨u2.heap.size, 1, none⟩) (Nat.le_refl _) (Nat.lt_succ_self _) _).setCell (p := ⟨u2.heap.size, 2, none⟩) (Nat.le_refl _) (Nat.lt_succ_self _) _).setCell (p := ⟨u2.heap.size, 3, none⟩) (Nat.le_refl _) (Nat.lt_succ_self _) _
              have zs4 : u3.heap.size ≤ u4.heap.size := hk4.size
              have hlo4 := HBl3.out.size
              have HBl4 : Hid (Below wr.heap.size wr u4) := Lib.hid (HBl3.out.trans ((hk4.to_below (by have := HX_b3.out.lt; omega)).mono (by omega)))
              have HX_b4 : Hid (Bx u4 u2.heap.size #[.int .i64 bk, .int .i64 bh, .int .i64 t0, .int .i64 t1] 76) := Lib.hid (by have := ((((HX_b3.out).set 0 (.int .i64 bk)).set 1 (.int .i64 bh)).set 2 (.int .i64 t0)).set 3 (.int .i64 t1); rw [hw4.out] at this; exact this)
              clear hHeld hw4 hk4 hlo4 xc0 xf0 xc1 xf1 xc2 xf2 xc3 xf3 HBl3 HX_b3
              refine hK.out _ _ ⟨((HBl4.out.cell (p := (a.add k)) hba).trans HKA.out), ((HBl4.out.cell (p := (b.add J)) hbb1).trans HTA.out), ((HBl4.out.cell (p := ⟨b.block, b.off + (J + 1), none⟩) hbb2).trans HTB.out)⟩ (fun hHeld => ?_)
              clear hK K
              try simp only [Act.put]
              refine wpAnyH_take (i := 24) (oi := { dst := some 18, op := Op.assign (Operand.tmp 72), type := 4, pos := "l16_rings.go:76", after := #[{ on := 21, ground := Ground.data }, { on := 23, ground := Ground.chain }, { on := 0, ground := Ground.phase }, { on := 1, ground := Ground.phase }, { on := 2, ground := Ground.phase }, { on := 3, ground := Ground.phase }, { on := 4, ground := Ground.phase }, { on := 5, ground := Ground.phase }, { on := 6, ground := Ground.phase }, { on := 7, ground := Ground.phase }, { on := 8, ground := Ground.phase }, { on := 9, ground := Ground.phase }, { on := 10, ground := Ground.phase }, { on := 11, ground := Ground.phase }, { on := 12, ground := Ground.phase }, { on := 13, ground := Ground.phase }, { on := 14, ground := Ground.phase }, { on := 15, ground := Ground.phase }, { on := 16, ground := Ground.phase }, { on := 17, ground := Ground.phase }, { on := 18, ground := Ground.phase }, { on := 19, ground := Ground.phase }, { on := 20, ground := Ground.phase }, { on := 21, ground := Ground.phase }, { on := 22, ground := Ground.phase }, { on := 23, ground := Ground.phase }], guard := none }) (v := ?_) rfl (by kernel_rfl) (by kernel_rfl) (by kernel_rfl) (fun _ _ _ h => h) (Or.inl ⟨by rfl, ?_⟩) hHeld ?_
              rotate_left
              · intro w hSw; obtain ⟨s0, s1, s2⟩ := hSw; (try dsimp only at hSw); go_simp; (try with_reducible rfl)
              try simp only [Act.put, List.setIfInBounds_toArray, List.set_cons_zero, List.set_cons_succ]
              refine wpAnyH_done (by kernel_rfl) ?_ _
              by_cases hkq : k = q
              · subst hkq
                rw [if_pos rfl] at HRS
                have HRF : Hid (re = othK tp k (k + 1)) := Lib.hid HRS.out.symm
                obtain ⟨p0, hp0⟩ : ∃ v, Hid (powI 4 t0 227 = v) := ⟨_, Lib.hid rfl⟩
                obtain ⟨p1, hp1⟩ : ∃ v, Hid (powI 9 t0 227 = v) := ⟨_, Lib.hid rfl⟩
                obtain ⟨p3, hp3⟩ : ∃ v, Hid ((t0 + 0 * s) % 113 = v) := ⟨_, Lib.hid rfl⟩
                have HMK := fun W => Lib.hid (s_makeT s t0 0 W s0 s1 t00 t01 (by omega) (by omega))
                simp only [hp0.out, hp1.out, hp3.out] at HMK
                rw [if_pos rfl, lownT, hp0.out, hp1.out, hp3.out] at HOT
                have HB := HBl4
                have HX_bb := HX_b4
                have hBB := HX_b4.out.lt
                clear hp0 hp1 hp3 HRS HBl4 HX_b4 HFE HKA HTB
                go_upto_region 11 with (fail)
                refine wp_region_held_drew (S := fun w' => w'.cell? (b.add J) = some (.int .i64 t0)) (by kernel_rfl) ((HB.out.cell (p := (b.add J)) hbb1).trans HTA.out) (fun hHeld => ?_)
                obtain ⟨y0, hv0⟩ : ∃ y0, Hid (u4.drew = y0) := ⟨_, Lib.hid rfl⟩
                rw [hv0.out] at hHeld ⊢
                have zy0 : u4.heap.size = y0.heap.size := by rw [← hv0.out]; rfl
                replace zy0 := Nat.le_of_eq zy0
                have HBy0 : Hid (Below wr.heap.size wr y0) := Lib.hid (by rw [← hv0.out]; exact HB.out.drew)
                have HX_bb0 : Hid (Bx y0 u2.heap.size #[.int .i64 bk, .int .i64 bh, .int .i64 t0, .int .i64 t1] 76) := Lib.hid (by rw [← hv0.out]; exact HX_bb.out)
                clear hv0
                refine wpAnyH_take (i := 1) (oi := { dst := some 78, op := Op.move (Operand.tmp 2), type := 3, pos := "l16_rings.go:78", after := #[], guard := none }) (v := ?_) rfl (by kernel_rfl) (by kernel_rfl) (by kernel_rfl) (fun _ _ _ h => h) (Or.inl ⟨by rfl, ?_⟩) hHeld ?_
                rotate_left
                · intro w hSw; (try dsimp only at hSw); go_simp; (try with_reducible rfl)
                try simp only [Act.put, List.setIfInBounds_toArray, List.set_cons_zero, List.set_cons_succ]
                refine wpAnyH_take (i := 2) (oi := { dst := some 79, op := Op.move (Operand.tmp 4), type := 22, pos := "l16_rings.go:78", after := #[], guard := none }) (v := ?_) rfl (by kernel_rfl) (by kernel_rfl) (by kernel_rfl) (fun _ _ _ h => h) (Or.inl ⟨by rfl, ?_⟩) hHeld ?_
                rotate_left
                · intro w hSw; (try dsimp only at hSw); go_simp; (try with_reducible rfl)
                try simp only [Act.put, List.setIfInBounds_toArray, List.set_cons_zero, List.set_cons_succ]
                refine wpAnyH_take (i := 3) (oi := { dst := some 80, op := Op.move (Operand.tmp 16), type := 3, pos := "l16_rings.go:78", after := #[], guard := none }) (v := ?_) rfl (by kernel_rfl) (by kernel_rfl) (by kernel_rfl) (fun _ _ _ h => h) (Or.inl ⟨by rfl, ?_⟩) hHeld ?_
                rotate_left
                · intro w hSw; (try dsimp only at hSw); go_simp; (try with_reducible rfl)
                try simp only [Act.put, List.setIfInBounds_toArray, List.set_cons_zero, List.set_cons_succ]
                refine wpAnyH_take (i := 4) (oi := { dst := some 81, op := Op.binOp BinOp.mul 3 (Operand.const (Value.int IntKind.i64 2)) (Operand.tmp 80) 3, type := 3, pos := "l16_rings.go:78", after := #[{ on := 3, ground := Ground.data }], guard := none }) (v := ?_) rfl (by kernel_rfl) (by kernel_rfl) (by kernel_rfl) (fun _ _ _ h => h) (Or.inl ⟨by rfl, ?_⟩) hHeld ?_
                rotate_left
                · intro w hSw; (try dsimp only at hSw); go_simp; (try with_reducible rfl)
                try simp only [Act.put, List.setIfInBounds_toArray, List.set_cons_zero, List.set_cons_succ]
                refine wpAnyH_take (i := 5) (oi := { dst := some 82, op := Op.indexAddr 22 (Operand.tmp 79) (Operand.tmp 81), type := 0, pos := "l16_rings.go:78", after := #[{ on := 2, ground := Ground.data }, { on := 4, ground := Ground.data }], guard := none }) (v := ?_) rfl (by kernel_rfl) (by kernel_rfl) (by kernel_rfl) (fun _ _ _ h => h) (Or.inl ⟨by rfl, ?_⟩) hHeld ?_
                rotate_left
                · intro w hSw; (try dsimp only at hSw); go_simp; (try with_reducible rfl)
                try simp only [Act.put, List.setIfInBounds_toArray, List.set_cons_zero, List.set_cons_succ]
                refine wpAnyH_take (i := 6) (oi := { dst := some 83, op := Op.load 3 (Operand.tmp 82), type := 3, pos := "l16_rings.go:78", after := #[{ on := 5, ground := Ground.data }], guard := none }) (v := ?_) rfl (by kernel_rfl) (by kernel_rfl) (by kernel_rfl) (fun _ _ _ h => h) (Or.inl ⟨by rfl, ?_⟩) hHeld ?_
                rotate_left
                · intro w hSw; (try dsimp only at hSw); go_simp; (try with_reducible rfl)
                try simp only [Act.put, List.setIfInBounds_toArray, List.set_cons_zero, List.set_cons_succ]
                refine wpAnyH_ready (rs := [0]) (by kernel_rfl) (by simp) ?_
                refine AllReadyH.cons (o := { dst := some 77, op := Op.call { callee := Callee.value (Operand.func 56), args := #[], argTypes := #[] }, type := 80, pos := "l16_rings.go:78", after := #[], guard := none }) rfl (fun K hK => ?_) ?_
                · go_simp
                  refine ((HBA y0).out).mono ?_
                  rintro e y1 ⟨rfl, hb_⟩
                  have zy1 : y0.heap.size ≤ y1.heap.size := hb_.size
                  have HBy1 : Hid (Below wr.heap.size wr y1) := Lib.hid (HBy0.out.trans (hb_.mono HBy0.out.size))
                  have HX_bb1 : Hid (Bx y1 u2.heap.size #[.int .i64 bk, .int .i64 bh, .int .i64 t0, .int .i64 t1] 76) := Lib.hid (HX_bb0.out.below hb_ HX_bb0.out.lt)
                  clear hHeld hb_ HBy0 HX_bb0
                  (try dsimp only)
                  (try go_wp2_with fail)
                  refine hK.out _ _ (((HBy1.out.cell (p := (b.add J)) hbb1).trans HTA.out)) (fun hHeld => ?_)
                  clear hK K
                  try simp only [Act.put, List.setIfInBounds_toArray, List.set_cons_zero, List.set_cons_succ]
                  refine wpAnyH_ready (rs := [7]) (by kernel_rfl) (by simp) ?_
                  refine AllReadyH.cons (o := { dst := some 84, op := Op.call { callee := Callee.value (Operand.func 57), args := #[Operand.tmp 77, Operand.tmp 78, Operand.tmp 83, Operand.const (Value.int IntKind.i64 0)], argTypes := #[80, 3, 3, 3] }, type := 77, pos := "l16_rings.go:78", after := #[{ on := 0, ground := Ground.data }, { on := 1, ground := Ground.data }, { on := 6, ground := Ground.data }, { on := 0, ground := Ground.chain }], guard := none }) rfl (fun K hK => ?_) ?_
                  · go_simp
                    refine ((HMK y1).out).mono ?_
                    rintro e y2 ⟨rfl, hb_⟩
                    have zy2 : y1.heap.size ≤ y2.heap.size := hb_.size
                    have HBy2 : Hid (Below wr.heap.size wr y2) := Lib.hid (HBy1.out.trans (hb_.mono HBy1.out.size))
                    have HX_bb2 : Hid (Bx y2 u2.heap.size #[.int .i64 bk, .int .i64 bh, .int .i64 t0, .int .i64 t1] 76) := Lib.hid (HX_bb1.out.below hb_ HX_bb1.out.lt)
                    clear hHeld hb_ HBy1 HX_bb1
                    (try dsimp only)
                    (try go_wp2_with fail)
                    refine hK.out _ _ (((HBy2.out.cell (p := (b.add J)) hbb1).trans HTA.out)) (fun hHeld => ?_)
                    clear hK K
                    try simp only [Act.put, List.setIfInBounds_toArray, List.set_cons_zero, List.set_cons_succ]
                    refine wpAnyH_take (i := 8) (oi := { dst := some 76, op := Op.move (Operand.tmp 84), type := 77, pos := "l16_rings.go:78", after := #[{ on := 7, ground := Ground.data }], guard := none }) (v := ?_) rfl (by kernel_rfl) (by kernel_rfl) (by kernel_rfl) (fun _ _ _ h => h) (Or.inl ⟨by rfl, ?_⟩) hHeld ?_
                    rotate_left
                    · intro w hSw; (try dsimp only at hSw); go_simp; (try with_reducible rfl)
                    try simp only [Act.put, List.setIfInBounds_toArray, List.set_cons_zero, List.set_cons_succ]
                    refine wpAnyH_take (i := 9) (oi := { dst := some 85, op := Op.extract (Operand.tmp 76) 0, type := 76, pos := "l16_rings.go:78", after := #[{ on := 8, ground := Ground.data }], guard := none }) (v := ?_) rfl (by kernel_rfl) (by kernel_rfl) (by kernel_rfl) (fun _ _ _ h => h) (Or.inl ⟨by rfl, ?_⟩) hHeld ?_
                    rotate_left
                    · intro w hSw; (try dsimp only at hSw); go_simp; (try with_reducible rfl)
                    try simp only [Act.put, List.setIfInBounds_toArray, List.set_cons_zero, List.set_cons_succ]
                    refine wpAnyH_take (i := 10) (oi := { dst := some 86, op := Op.extract (Operand.tmp 76) 1, type := 4, pos := "l16_rings.go:78", after := #[{ on := 8, ground := Ground.data }, { on := 11, ground := Ground.gcOnly Departure.lateStores }], guard := none }) (v := ?_) rfl (by kernel_rfl) (by kernel_rfl) (by kernel_rfl) (fun _ _ _ h => h) (Or.inl ⟨by rfl, ?_⟩) hHeld ?_
                    rotate_left
                    · intro w hSw; (try dsimp only at hSw); go_simp; (try with_reducible rfl)
                    try simp only [Act.put, List.setIfInBounds_toArray, List.set_cons_zero, List.set_cons_succ]
                    refine wpAnyH_ready (rs := [11]) (by kernel_rfl) (by simp) ?_
                    refine AllReadyH.cons (o := { dst := none, op := Op.store 76 (Operand.tmp 17) (Operand.tmp 85), type := 0, pos := "l16_rings.go:78", after := #[{ on := 9, ground := Ground.data }, { on := 7, ground := Ground.chain }, { on := 0, ground := Ground.phase }, { on := 1, ground := Ground.phase }, { on := 2, ground := Ground.phase }, { on := 3, ground := Ground.phase }, { on := 4, ground := Ground.phase }, { on := 5, ground := Ground.phase }, { on := 6, ground := Ground.phase }, { on := 7, ground := Ground.phase }, { on := 8, ground := Ground.phase }, { on := 9, ground := Ground.phase }, { on := 10, ground := Ground.textOnly Departure.lateStores }], guard := none }) rfl (fun K hK => ?_) ?_
                    · have xc0 : y2.cell? ⟨u2.heap.size, 0, none⟩ = some (.int .i64 bk) := HX_bb2.out.cell 0
                      have xf0 : y2.frozen? ⟨u2.heap.size, 0, none⟩ = false := HX_bb2.out.free 0
                      have xc1 : y2.cell? ⟨u2.heap.size, 1, none⟩ = some (.int .i64 bh) := HX_bb2.out.cell 1
                      have xf1 : y2.frozen? ⟨u2.heap.size, 1, none⟩ = false := HX_bb2.out.free 1
                      have xc2 : y2.cell? ⟨u2.heap.size, 2, none⟩ = some (.int .i64 t0) := HX_bb2.out.cell 2
                      have xf2 : y2.frozen? ⟨u2.heap.size, 2, none⟩ = false := HX_bb2.out.free 2
                      have xc3 : y2.cell? ⟨u2.heap.size, 3, none⟩ = some (.int .i64 t1) := HX_bb2.out.cell 3
                      have xf3 : y2.frozen? ⟨u2.heap.size, 3, none⟩ = false := HX_bb2.out.free 3
                      go_simp
                      obtain ⟨y3, hy3⟩ : ∃ W, Hid (((((y2.setCell ⟨u2.heap.size, 0, none⟩ (.int .i64 p0)).setCell ⟨u2.heap.size, 1, none⟩ (.int .i64 p1)).setCell ⟨u2.heap.size, 2, none⟩ (.int .i64 0)).setCell ⟨u2.heap.size, 3, none⟩ (.int .i64 p3)) = W) := ⟨_, Lib.hid rfl⟩
                      rw [hy3.out]
                      have hky3 : Kept (u2.heap.size) (u2.heap.size + 1) y2 y3 := by rw [← hy3.out]; exact ((((Kept.refl _ _ _).setCell (p := ⟨u2.heap.size, 0, none⟩) (Nat.le_refl _) (Nat.lt_succ_self _) _).setCell (p := ⟨u2.heap.size, 1, none⟩) (Nat.le_refl _) (Nat.lt_succ_self _) _).setCell (p := ⟨u2.heap.size, 2, none⟩) (Nat.le_refl _) (Nat.lt_succ_self _) _).setCell (p := ⟨u2.heap.size, 3, none⟩) (Nat.le_refl _) (Nat.lt_succ_self _) _
                      have zy3 : y2.heap.size ≤ y3.heap.size := hky3.size
                      have hlo3 := HBy2.out.size
                      have HBy3 : Hid (Below wr.heap.size wr y3) := Lib.hid (HBy2.out.trans ((hky3.to_below (by have := HX_bb2.out.lt; omega)).mono (by omega)))
                      have HX_bb3 : Hid (Bx y3 u2.heap.size #[.int .i64 p0, .int .i64 p1, .int .i64 0, .int .i64 p3] 76) := Lib.hid (by have := ((((HX_bb2.out).set 0 (.int .i64 p0)).set 1 (.int .i64 p1)).set 2 (.int .i64 0)).set 3 (.int .i64 p3); rw [hy3.out] at this; exact this)
                      clear hHeld hy3 hky3 hlo3 xc0 xf0 xc1 xf1 xc2 xf2 xc3 xf3 HBy2 HX_bb2
                      refine hK.out _ _ (((HBy3.out.cell (p := (b.add J)) hbb1).trans HTA.out)) (fun hHeld => ?_)
                      clear hK K
                      try simp only [Act.put]
                      refine wpAnyH_done (by kernel_rfl) ?_ _
                      have HBu : Hid (Below w.heap.size w y3) := Lib.hid (HBw.out.trans (HBy3.out.mono hzw))
                      have HOu := Lib.hid (ownsRow_below HO.out HBy3.out)
                      have x0 : y3.cell? ⟨u2.heap.size, 0, none⟩ = some (.int .i64 p0) := HX_bb3.out.cell 0
                      have x1 : y3.cell? ⟨u2.heap.size, 1, none⟩ = some (.int .i64 p1) := HX_bb3.out.cell 1
                      have x2 : y3.cell? ⟨u2.heap.size, 2, none⟩ = some (.int .i64 0) := HX_bb3.out.cell 2
                      have x3 : y3.cell? ⟨u2.heap.size, 3, none⟩ = some (.int .i64 p3) := HX_bb3.out.cell 3
                      clear HO HBw HBy3 HX_bb3
                      have HOl := Lib.hid (HOu.out.alloc (.cells #[.int .i64 p0, .int .i64 p1, .int .i64 0, .int .i64 p3] 76))
                      have HLP : Hid (Rd (y3.alloc (.cells #[.int .i64 p0, .int .i64 p1, .int .i64 0, .int .i64 p3] 76)) (y3.heap.size + 1) 4 (some ⟨y3.heap.size, 0, none⟩) 1 (cTwin [(p0, p1, 0, p3)])) := Lib.hid (lit4_at (heap_alloc_new _ _))
                      go_wp2_with (at_builtin
                                   refine wpList_append_rd rfl (.tmp 95) (.tmp 97) _ rfl w.heap.size 76 _ 4 32 Try.underlying34 info_Twin rfl (by decide) (.slice Ao k co) k (cTwin (preT ks tag tp k s k)) rfl HOl.out _ _ 1 1 (cTwin [(p0, p1, 0, p3)]) rfl HLP.out (cTwin_one _) (by unfold maxLen; omega) (by omega) (by have := HBu.out.size; simp; omega) ?_
                                   intro v6 w6 hown hgr hat
                                   obtain ⟨A6, c6, hv6, ho6⟩ := Ow.of_own hown
                                   subst hv6
                                   have HO6 : Hid (w6.ownsRow w.heap.size 76 4 (.slice A6 (k + 1) c6) (k + 1) (cTwin (preT ks tag tp k s (k + 1)))) := Lib.hid (by rw [HOT.out, cTwin_app]; exact hown)
                                   have HB6 : Hid (Below w.heap.size w w6) := Lib.hid (below_grown (HBu.out.alloc HBu.out.size _) hgr (fun g e => own_ge HOu.out e) (by have := HBu.out.size; simp; omega))
                                   clear hown hgr hat ho6)
                      go_roundw
                      case rel => exact ⟨k + 1, A6, c6, re, by omega, by go_num, rfl, rfl, by omega, by omega, HRF, HO6, HB6⟩
                      case measure => simp [intOf] <;> omega
                    exact AllReadyH.nil
                  exact AllReadyH.nil
                exact AllReadyH.nil
              · have e2 : ¬ (k : Int) = (q : Int) := by omega
                rw [if_neg hkq] at HRS HOT
                have HBu : Hid (Below w.heap.size w u4) := Lib.hid (HBw.out.trans (HBl4.out.mono hzw))
                have HOu := Lib.hid (ownsRow_below HO.out HBl4.out)
                have hta := (HBl4.out.cell (p := b.add J) hbb1).trans HTA.out
                have HXu := HX_b4
                clear HBl4 HX_b4 HO HBw
                have HRF : Hid ((re + t0) % 113 = othK tp q (k + 1)) := Lib.hid HRS.out.symm
                have x0 : u4.cell? ⟨u2.heap.size, 0, none⟩ = some (.int .i64 bk) := HXu.out.cell 0
                have x1 : u4.cell? ⟨u2.heap.size, 1, none⟩ = some (.int .i64 bh) := HXu.out.cell 1
                have x2 : u4.cell? ⟨u2.heap.size, 2, none⟩ = some (.int .i64 t0) := HXu.out.cell 2
                have x3 : u4.cell? ⟨u2.heap.size, 3, none⟩ = some (.int .i64 t1) := HXu.out.cell 3
                have iw3 : IntKind.i64.wrap (re + t0) = re + t0 := IntWalk.i64_in _ (by omega)
                have im3 : (re + t0).tmod 113 = (re + t0) % 113 := Int.tmod_eq_emod_of_nonneg (by omega)
                clear hkq HRS
                have HOl := Lib.hid (HOu.out.alloc (.cells #[.int .i64 bk, .int .i64 bh, .int .i64 t0, .int .i64 t1] 76))
                have HLP : Hid (Rd (u4.alloc (.cells #[.int .i64 bk, .int .i64 bh, .int .i64 t0, .int .i64 t1] 76)) (u4.heap.size + 1) 4 (some ⟨u4.heap.size, 0, none⟩) 1 (cTwin [(bk, bh, t0, t1)])) := Lib.hid (lit4_at (heap_alloc_new _ _))
                go_wp2_with (at_builtin
                             refine wpList_append_rd rfl (.tmp 95) (.tmp 97) _ rfl w.heap.size 76 _ 4 32 Try.underlying34 info_Twin rfl (by decide) (.slice Ao k co) k (cTwin (preT ks tag tp q s k)) rfl HOl.out _ _ 1 1 (cTwin [(bk, bh, t0, t1)]) rfl HLP.out (cTwin_one _) (by unfold maxLen; omega) (by omega) (by have := HBu.out.size; simp; omega) ?_
                             intro v6 w6 hown hgr hat
                             obtain ⟨A6, c6, hv6, ho6⟩ := Ow.of_own hown
                             subst hv6
                             have HO6 : Hid (w6.ownsRow w.heap.size 76 4 (.slice A6 (k + 1) c6) (k + 1) (cTwin (preT ks tag tp q s (k + 1)))) := Lib.hid (by rw [HOT.out, cTwin_app]; exact hown)
                             have HB6 : Hid (Below w.heap.size w w6) := Lib.hid (below_grown (HBu.out.alloc HBu.out.size _) hgr (fun g e => own_ge HOu.out e) (by have := HBu.out.size; simp; omega))
                             clear hown hgr hat ho6)
                go_roundw
                case rel => exact ⟨k + 1, A6, c6, (re + t0) % 113, by omega, by go_num, rfl, rfl, by omega, by omega, HRF, HO6, HB6⟩
                case measure => simp [intOf] <;> omega
            exact AllReadyH.nil
          exact AllReadyH.nil
        refine AllReadyH.cons (o := { dst := some 17, op := Op.alloc 76, type := 0, pos := "l16_rings.go:76", after := #[], guard := none }) rfl (fun K hK => ?_) ?_
        · go_simp
          obtain ⟨u2, hw2⟩ : ∃ W, Hid (u1.alloc (.cells #[.int .i64 0, .int .i64 0, .int .i64 0, .int .i64 0] 76) = W) := ⟨_, Lib.hid rfl⟩
          rw [hw2.out]
          have zs2 : u1.heap.size < u2.heap.size := by rw [← hw2.out, World.size_alloc]; omega
          have HBl2 : Hid (Below wr.heap.size wr u2) := Lib.hid (by rw [← hw2.out]; exact HBl1.out.alloc HBl1.out.size _)
          have HX_b2 : Hid (Bx u2 u1.heap.size #[.int .i64 0, .int .i64 0, .int .i64 0, .int .i64 0] 76) := Lib.hid (by rw [← hw2.out]; exact Bx.new _ _ _)
          have hab2 : Below u1.heap.size u1 u2 := by rw [← hw2.out]; exact (Below.refl _ _).alloc (Nat.le_refl _) _
          clear hHeld hw2 hab2 HBl1
          refine hK.out _ _ ⟨((HBl2.out.cell (p := (a.add k)) hba).trans HKA.out), ((HBl2.out.cell (p := (b.add J)) hbb1).trans HTA.out), ((HBl2.out.cell (p := ⟨b.block, b.off + (J + 1), none⟩) hbb2).trans HTB.out)⟩ (fun hHeld => ?_)
          clear hK K
          try simp only [Act.put, List.setIfInBounds_toArray, List.set_cons_zero, List.set_cons_succ]
          refine wpAnyH_ready (rs := [18]) (by kernel_rfl) (by simp) ?_
          refine AllReadyH.cons (o := { dst := some 70, op := Op.call { callee := Callee.value (Operand.func 55), args := #[Operand.tmp 52, Operand.tmp 58, Operand.tmp 63, Operand.tmp 69], argTypes := #[80, 80, 3, 3] }, type := 77, pos := "l16_rings.go:76", after := #[{ on := 0, ground := Ground.data }, { on := 6, ground := Ground.data }, { on := 11, ground := Ground.data }, { on := 17, ground := Ground.data }, { on := 0, ground := Ground.chain }], guard := none }) rfl (fun K hK => ?_) ?_
          · go_simp
            refine ((HFE u2).out).mono ?_
            rintro e u3 ⟨rfl, hb_⟩
            have zs3 : u2.heap.size ≤ u3.heap.size := hb_.size
            have HBl3 : Hid (Below wr.heap.size wr u3) := Lib.hid (HBl2.out.trans (hb_.mono HBl2.out.size))
            have HX_b3 : Hid (Bx u3 u1.heap.size #[.int .i64 0, .int .i64 0, .int .i64 0, .int .i64 0] 76) := Lib.hid (HX_b2.out.below hb_ HX_b2.out.lt)
            clear hHeld hb_ HBl2 HX_b2
            (try dsimp only)
            (try go_wp2_with fail)
            refine hK.out _ _ ⟨((HBl3.out.cell (p := (a.add k)) hba).trans HKA.out), ((HBl3.out.cell (p := (b.add J)) hbb1).trans HTA.out), ((HBl3.out.cell (p := ⟨b.block, b.off + (J + 1), none⟩) hbb2).trans HTB.out)⟩ (fun hHeld => ?_)
            clear hK K
            try simp only [Act.put, List.setIfInBounds_toArray, List.set_cons_zero, List.set_cons_succ]
            refine wpAnyH_take (i := 19) (oi := { dst := some 51, op := Op.move (Operand.tmp 70), type := 77, pos := "l16_rings.go:76", after := #[{ on := 18, ground := Ground.data }], guard := none }) (v := ?_) rfl (by kernel_rfl) (by kernel_rfl) (by kernel_rfl) (fun _ _ _ h => h) (Or.inl ⟨by rfl, ?_⟩) hHeld ?_
            rotate_left
            · intro w hSw; obtain ⟨s0, s1, s2⟩ := hSw; (try dsimp only at hSw); go_simp; (try with_reducible rfl)
            try simp only [Act.put, List.setIfInBounds_toArray, List.set_cons_zero, List.set_cons_succ]
            refine wpAnyH_take (i := 20) (oi := { dst := some 71, op := Op.extract (Operand.tmp 51) 0, type := 76, pos := "l16_rings.go:76", after := #[{ on := 19, ground := Ground.data }], guard := none }) (v := ?_) rfl (by kernel_rfl) (by kernel_rfl) (by kernel_rfl) (fun _ _ _ h => h) (Or.inl ⟨by rfl, ?_⟩) hHeld ?_
            rotate_left
            · intro w hSw; obtain ⟨s0, s1, s2⟩ := hSw; (try dsimp only at hSw); go_simp; (try with_reducible rfl)
            try simp only [Act.put, List.setIfInBounds_toArray, List.set_cons_zero, List.set_cons_succ]
            refine wpAnyH_take (i := 21) (oi := { dst := some 72, op := Op.extract (Operand.tmp 51) 1, type := 4, pos := "l16_rings.go:76", after := #[{ on := 19, ground := Ground.data }, { on := 23, ground := Ground.gcOnly Departure.lateStores }], guard := none }) (v := ?_) rfl (by kernel_rfl) (by kernel_rfl) (by kernel_rfl) (fun _ _ _ h => h) (Or.inl ⟨by rfl, ?_⟩) hHeld ?_
            rotate_left
            · intro w hSw; obtain ⟨s0, s1, s2⟩ := hSw; (try dsimp only at hSw); go_simp; (try with_reducible rfl)
            try simp only [Act.put, List.setIfInBounds_toArray, List.set_cons_zero, List.set_cons_succ]
            refine wpAnyH_ready (rs := [23]) (by kernel_rfl) (by simp) ?_
            refine AllReadyH.cons (o := { dst := none, op := Op.store 76 (Operand.tmp 17) (Operand.tmp 71), type := 0, pos := "l16_rings.go:76", after := #[{ on := 22, ground := Ground.data }, { on := 20, ground := Ground.data }, { on := 18, ground := Ground.chain }, { on := 0, ground := Ground.phase }, { on := 1, ground := Ground.phase }, { on := 2, ground := Ground.phase }, { on := 3, ground := Ground.phase }, { on := 4, ground := Ground.phase }, { on := 5, ground := Ground.phase }, { on := 6, ground := Ground.phase }, { on := 7, ground := Ground.phase }, { on := 8, ground := Ground.phase }, { on := 9, ground := Ground.phase }, { on := 10, ground := Ground.phase }, { on := 11, ground := Ground.phase }, { on := 12, ground := Ground.phase }, { on := 13, ground := Ground.phase }, { on := 14, ground := Ground.phase }, { on := 15, ground := Ground.phase }, { on := 16, ground := Ground.phase }, { on := 17, ground := Ground.phase }, { on := 18, ground := Ground.phase }, { on := 19, ground := Ground.phase }, { on := 20, ground := Ground.phase }, { on := 21, ground := Ground.textOnly Departure.lateStores }, { on := 22, ground := Ground.phase }], guard := none }) rfl (fun K hK => ?_) ?_
            · have xc0 : u3.cell? ⟨u1.heap.size, 0, none⟩ = some (.int .i64 0) := HX_b3.out.cell 0
              have xf0 : u3.frozen? ⟨u1.heap.size, 0, none⟩ = false := HX_b3.out.free 0
              have xc1 : u3.cell? ⟨u1.heap.size, 1, none⟩ = some (.int .i64 0) := HX_b3.out.cell 1
              have xf1 : u3.frozen? ⟨u1.heap.size, 1, none⟩ = false := HX_b3.out.free 1
              have xc2 : u3.cell? ⟨u1.heap.size, 2, none⟩ = some (.int .i64 0) := HX_b3.out.cell 2
              have xf2 : u3.frozen? ⟨u1.heap.size, 2, none⟩ = false := HX_b3.out.free 2
              have xc3 : u3.cell? ⟨u1.heap.size, 3, none⟩ = some (.int .i64 0) := HX_b3.out.cell 3
              have xf3 : u3.frozen? ⟨u1.heap.size, 3, none⟩ = false := HX_b3.out.free 3
              go_simp
              obtain ⟨u4, hw4⟩ : ∃ W, Hid (((((u3.setCell ⟨u1.heap.size, 0, none⟩ (.int .i64 bk)).setCell ⟨u1.heap.size, 1, none⟩ (.int .i64 bh)).setCell ⟨u1.heap.size, 2, none⟩ (.int .i64 t0)).setCell ⟨u1.heap.size, 3, none⟩ (.int .i64 t1)) = W) := ⟨_, Lib.hid rfl⟩
              rw [hw4.out]
              have hk4 : Kept (u1.heap.size) (u1.heap.size + 1) u3 u4 := by rw [← hw4.out]; exact ((((Kept.refl _ _ _).setCell (p := ⟨u1.heap.size, 0, none⟩) (Nat.le_refl _) (Nat.lt_succ_self _) _).setCell (p := ⟨u1.heap.size, 1, none⟩) (Nat.le_refl _) (Nat.lt_succ_self _) _).setCell (p := ⟨u1.heap.size, 2, none⟩) (Nat.le_refl _) (Nat.lt_succ_self _) _).setCell (p := ⟨u1.heap.size, 3, none⟩) (Nat.le_refl _) (Nat.lt_succ_self _) _
              have zs4 : u3.heap.size ≤ u4.heap.size := hk4.size
              have hlo4 := HBl3.out.size
              have HBl4 : Hid (Below wr.heap.size wr u4) := Lib.hid (HBl3.out.trans ((hk4.to_below (by have := HX_b3.out.lt; omega)).mono (by omega)))
              have HX_b4 : Hid (Bx u4 u1.heap.size #[.int .i64 bk, .int .i64 bh, .int .i64 t0, .int .i64 t1] 76) := Lib.hid (by have := ((((HX_b3.out).set 0 (.int .i64 bk)).set 1 (.int .i64 bh)).set 2 (.int .i64 t0)).set 3 (.int .i64 t1); rw [hw4.out] at this; exact this)
              clear hHeld hw4 hk4 hlo4 xc0 xf0 xc1 xf1 xc2 xf2 xc3 xf3 HBl3 HX_b3
              refine hK.out _ _ ⟨((HBl4.out.cell (p := (a.add k)) hba).trans HKA.out), ((HBl4.out.cell (p := (b.add J)) hbb1).trans HTA.out), ((HBl4.out.cell (p := ⟨b.block, b.off + (J + 1), none⟩) hbb2).trans HTB.out)⟩ (fun hHeld => ?_)
              clear hK K
              try simp only [Act.put]
              refine wpAnyH_take (i := 24) (oi := { dst := some 18, op := Op.assign (Operand.tmp 72), type := 4, pos := "l16_rings.go:76", after := #[{ on := 21, ground := Ground.data }, { on := 23, ground := Ground.chain }, { on := 0, ground := Ground.phase }, { on := 1, ground := Ground.phase }, { on := 2, ground := Ground.phase }, { on := 3, ground := Ground.phase }, { on := 4, ground := Ground.phase }, { on := 5, ground := Ground.phase }, { on := 6, ground := Ground.phase }, { on := 7, ground := Ground.phase }, { on := 8, ground := Ground.phase }, { on := 9, ground := Ground.phase }, { on := 10, ground := Ground.phase }, { on := 11, ground := Ground.phase }, { on := 12, ground := Ground.phase }, { on := 13, ground := Ground.phase }, { on := 14, ground := Ground.phase }, { on := 15, ground := Ground.phase }, { on := 16, ground := Ground.phase }, { on := 17, ground := Ground.phase }, { on := 18, ground := Ground.phase }, { on := 19, ground := Ground.phase }, { on := 20, ground := Ground.phase }, { on := 21, ground := Ground.phase }, { on := 22, ground := Ground.phase }, { on := 23, ground := Ground.phase }], guard := none }) (v := ?_) rfl (by kernel_rfl) (by kernel_rfl) (by kernel_rfl) (fun _ _ _ h => h) (Or.inl ⟨by rfl, ?_⟩) hHeld ?_
              rotate_left
              · intro w hSw; obtain ⟨s0, s1, s2⟩ := hSw; (try dsimp only at hSw); go_simp; (try with_reducible rfl)
              try simp only [Act.put, List.setIfInBounds_toArray, List.set_cons_zero, List.set_cons_succ]
              refine wpAnyH_done (by kernel_rfl) ?_ _
              by_cases hkq : k = q
              · subst hkq
                rw [if_pos rfl] at HRS
                have HRF : Hid (re = othK tp k (k + 1)) := Lib.hid HRS.out.symm
                obtain ⟨p0, hp0⟩ : ∃ v, Hid (powI 4 t0 227 = v) := ⟨_, Lib.hid rfl⟩
                obtain ⟨p1, hp1⟩ : ∃ v, Hid (powI 9 t0 227 = v) := ⟨_, Lib.hid rfl⟩
                obtain ⟨p3, hp3⟩ : ∃ v, Hid ((t0 + 0 * s) % 113 = v) := ⟨_, Lib.hid rfl⟩
                have HMK := fun W => Lib.hid (s_makeT s t0 0 W s0 s1 t00 t01 (by omega) (by omega))
                simp only [hp0.out, hp1.out, hp3.out] at HMK
                rw [if_pos rfl, lownT, hp0.out, hp1.out, hp3.out] at HOT
                have HB := HBl4
                have HX_bb := HX_b4
                have hBB := HX_b4.out.lt
                clear hp0 hp1 hp3 HRS HBl4 HX_b4 HFE HKA HTB
                go_upto_region 11 with (fail)
                refine wp_region_held_drew (S := fun w' => w'.cell? (b.add J) = some (.int .i64 t0)) (by kernel_rfl) ((HB.out.cell (p := (b.add J)) hbb1).trans HTA.out) (fun hHeld => ?_)
                obtain ⟨y0, hv0⟩ : ∃ y0, Hid (u4.drew = y0) := ⟨_, Lib.hid rfl⟩
                rw [hv0.out] at hHeld ⊢
                have zy0 : u4.heap.size = y0.heap.size := by rw [← hv0.out]; rfl
                replace zy0 := Nat.le_of_eq zy0
                have HBy0 : Hid (Below wr.heap.size wr y0) := Lib.hid (by rw [← hv0.out]; exact HB.out.drew)
                have HX_bb0 : Hid (Bx y0 u1.heap.size #[.int .i64 bk, .int .i64 bh, .int .i64 t0, .int .i64 t1] 76) := Lib.hid (by rw [← hv0.out]; exact HX_bb.out)
                clear hv0
                refine wpAnyH_take (i := 1) (oi := { dst := some 78, op := Op.move (Operand.tmp 2), type := 3, pos := "l16_rings.go:78", after := #[], guard := none }) (v := ?_) rfl (by kernel_rfl) (by kernel_rfl) (by kernel_rfl) (fun _ _ _ h => h) (Or.inl ⟨by rfl, ?_⟩) hHeld ?_
                rotate_left
                · intro w hSw; (try dsimp only at hSw); go_simp; (try with_reducible rfl)
                try simp only [Act.put, List.setIfInBounds_toArray, List.set_cons_zero, List.set_cons_succ]
                refine wpAnyH_take (i := 2) (oi := { dst := some 79, op := Op.move (Operand.tmp 4), type := 22, pos := "l16_rings.go:78", after := #[], guard := none }) (v := ?_) rfl (by kernel_rfl) (by kernel_rfl) (by kernel_rfl) (fun _ _ _ h => h) (Or.inl ⟨by rfl, ?_⟩) hHeld ?_
                rotate_left
                · intro w hSw; (try dsimp only at hSw); go_simp; (try with_reducible rfl)
                try simp only [Act.put, List.setIfInBounds_toArray, List.set_cons_zero, List.set_cons_succ]
                refine wpAnyH_take (i := 3) (oi := { dst := some 80, op := Op.move (Operand.tmp 16), type := 3, pos := "l16_rings.go:78", after := #[], guard := none }) (v := ?_) rfl (by kernel_rfl) (by kernel_rfl) (by kernel_rfl) (fun _ _ _ h => h) (Or.inl ⟨by rfl, ?_⟩) hHeld ?_
                rotate_left
                · intro w hSw; (try dsimp only at hSw); go_simp; (try with_reducible rfl)
                try simp only [Act.put, List.setIfInBounds_toArray, List.set_cons_zero, List.set_cons_succ]
                refine wpAnyH_take (i := 4) (oi := { dst := some 81, op := Op.binOp BinOp.mul 3 (Operand.const (Value.int IntKind.i64 2)) (Operand.tmp 80) 3, type := 3, pos := "l16_rings.go:78", after := #[{ on := 3, ground := Ground.data }], guard := none }) (v := ?_) rfl (by kernel_rfl) (by kernel_rfl) (by kernel_rfl) (fun _ _ _ h => h) (Or.inl ⟨by rfl, ?_⟩) hHeld ?_
                rotate_left
                · intro w hSw; (try dsimp only at hSw); go_simp; (try with_reducible rfl)
                try simp only [Act.put, List.setIfInBounds_toArray, List.set_cons_zero, List.set_cons_succ]
                refine wpAnyH_take (i := 5) (oi := { dst := some 82, op := Op.indexAddr 22 (Operand.tmp 79) (Operand.tmp 81), type := 0, pos := "l16_rings.go:78", after := #[{ on := 2, ground := Ground.data }, { on := 4, ground := Ground.data }], guard := none }) (v := ?_) rfl (by kernel_rfl) (by kernel_rfl) (by kernel_rfl) (fun _ _ _ h => h) (Or.inl ⟨by rfl, ?_⟩) hHeld ?_
                rotate_left
                · intro w hSw; (try dsimp only at hSw); go_simp; (try with_reducible rfl)
                try simp only [Act.put, List.setIfInBounds_toArray, List.set_cons_zero, List.set_cons_succ]
                refine wpAnyH_take (i := 6) (oi := { dst := some 83, op := Op.load 3 (Operand.tmp 82), type := 3, pos := "l16_rings.go:78", after := #[{ on := 5, ground := Ground.data }], guard := none }) (v := ?_) rfl (by kernel_rfl) (by kernel_rfl) (by kernel_rfl) (fun _ _ _ h => h) (Or.inl ⟨by rfl, ?_⟩) hHeld ?_
                rotate_left
                · intro w hSw; (try dsimp only at hSw); go_simp; (try with_reducible rfl)
                try simp only [Act.put, List.setIfInBounds_toArray, List.set_cons_zero, List.set_cons_succ]
                refine wpAnyH_ready (rs := [0]) (by kernel_rfl) (by simp) ?_
                refine AllReadyH.cons (o := { dst := some 77, op := Op.call { callee := Callee.value (Operand.func 56), args := #[], argTypes := #[] }, type := 80, pos := "l16_rings.go:78", after := #[], guard := none }) rfl (fun K hK => ?_) ?_
                · go_simp
                  refine ((HBA y0).out).mono ?_
                  rintro e y1 ⟨rfl, hb_⟩
                  have zy1 : y0.heap.size ≤ y1.heap.size := hb_.size
                  have HBy1 : Hid (Below wr.heap.size wr y1) := Lib.hid (HBy0.out.trans (hb_.mono HBy0.out.size))
                  have HX_bb1 : Hid (Bx y1 u1.heap.size #[.int .i64 bk, .int .i64 bh, .int .i64 t0, .int .i64 t1] 76) := Lib.hid (HX_bb0.out.below hb_ HX_bb0.out.lt)
                  clear hHeld hb_ HBy0 HX_bb0
                  (try dsimp only)
                  (try go_wp2_with fail)
                  refine hK.out _ _ (((HBy1.out.cell (p := (b.add J)) hbb1).trans HTA.out)) (fun hHeld => ?_)
                  clear hK K
                  try simp only [Act.put, List.setIfInBounds_toArray, List.set_cons_zero, List.set_cons_succ]
                  refine wpAnyH_ready (rs := [7]) (by kernel_rfl) (by simp) ?_
                  refine AllReadyH.cons (o := { dst := some 84, op := Op.call { callee := Callee.value (Operand.func 57), args := #[Operand.tmp 77, Operand.tmp 78, Operand.tmp 83, Operand.const (Value.int IntKind.i64 0)], argTypes := #[80, 3, 3, 3] }, type := 77, pos := "l16_rings.go:78", after := #[{ on := 0, ground := Ground.data }, { on := 1, ground := Ground.data }, { on := 6, ground := Ground.data }, { on := 0, ground := Ground.chain }], guard := none }) rfl (fun K hK => ?_) ?_
                  · go_simp
                    refine ((HMK y1).out).mono ?_
                    rintro e y2 ⟨rfl, hb_⟩
                    have zy2 : y1.heap.size ≤ y2.heap.size := hb_.size
                    have HBy2 : Hid (Below wr.heap.size wr y2) := Lib.hid (HBy1.out.trans (hb_.mono HBy1.out.size))
                    have HX_bb2 : Hid (Bx y2 u1.heap.size #[.int .i64 bk, .int .i64 bh, .int .i64 t0, .int .i64 t1] 76) := Lib.hid (HX_bb1.out.below hb_ HX_bb1.out.lt)
                    clear hHeld hb_ HBy1 HX_bb1
                    (try dsimp only)
                    (try go_wp2_with fail)
                    refine hK.out _ _ (((HBy2.out.cell (p := (b.add J)) hbb1).trans HTA.out)) (fun hHeld => ?_)
                    clear hK K
                    try simp only [Act.put, List.setIfInBounds_toArray, List.set_cons_zero, List.set_cons_succ]
                    refine wpAnyH_take (i := 8) (oi := { dst := some 76, op := Op.move (Operand.tmp 84), type := 77, pos := "l16_rings.go:78", after := #[{ on := 7, ground := Ground.data }], guard := none }) (v := ?_) rfl (by kernel_rfl) (by kernel_rfl) (by kernel_rfl) (fun _ _ _ h => h) (Or.inl ⟨by rfl, ?_⟩) hHeld ?_
                    rotate_left
                    · intro w hSw; (try dsimp only at hSw); go_simp; (try with_reducible rfl)
                    try simp only [Act.put, List.setIfInBounds_toArray, List.set_cons_zero, List.set_cons_succ]
                    refine wpAnyH_take (i := 9) (oi := { dst := some 85, op := Op.extract (Operand.tmp 76) 0, type := 76, pos := "l16_rings.go:78", after := #[{ on := 8, ground := Ground.data }], guard := none }) (v := ?_) rfl (by kernel_rfl) (by kernel_rfl) (by kernel_rfl) (fun _ _ _ h => h) (Or.inl ⟨by rfl, ?_⟩) hHeld ?_
                    rotate_left
                    · intro w hSw; (try dsimp only at hSw); go_simp; (try with_reducible rfl)
                    try simp only [Act.put, List.setIfInBounds_toArray, List.set_cons_zero, List.set_cons_succ]
                    refine wpAnyH_take (i := 10) (oi := { dst := some 86, op := Op.extract (Operand.tmp 76) 1, type := 4, pos := "l16_rings.go:78", after := #[{ on := 8, ground := Ground.data }, { on := 11, ground := Ground.gcOnly Departure.lateStores }], guard := none }) (v := ?_) rfl (by kernel_rfl) (by kernel_rfl) (by kernel_rfl) (fun _ _ _ h => h) (Or.inl ⟨by rfl, ?_⟩) hHeld ?_
                    rotate_left
                    · intro w hSw; (try dsimp only at hSw); go_simp; (try with_reducible rfl)
                    try simp only [Act.put, List.setIfInBounds_toArray, List.set_cons_zero, List.set_cons_succ]
                    refine wpAnyH_ready (rs := [11]) (by kernel_rfl) (by simp) ?_
                    refine AllReadyH.cons (o := { dst := none, op := Op.store 76 (Operand.tmp 17) (Operand.tmp 85), type := 0, pos := "l16_rings.go:78", after := #[{ on := 9, ground := Ground.data }, { on := 7, ground := Ground.chain }, { on := 0, ground := Ground.phase }, { on := 1, ground := Ground.phase }, { on := 2, ground := Ground.phase }, { on := 3, ground := Ground.phase }, { on := 4, ground := Ground.phase }, { on := 5, ground := Ground.phase }, { on := 6, ground := Ground.phase }, { on := 7, ground := Ground.phase }, { on := 8, ground := Ground.phase }, { on := 9, ground := Ground.phase }, { on := 10, ground := Ground.textOnly Departure.lateStores }], guard := none }) rfl (fun K hK => ?_) ?_
                    · have xc0 : y2.cell? ⟨u1.heap.size, 0, none⟩ = some (.int .i64 bk) := HX_bb2.out.cell 0
                      have xf0 : y2.frozen? ⟨u1.heap.size, 0, none⟩ = false := HX_bb2.out.free 0
                      have xc1 : y2.cell? ⟨u1.heap.size, 1, none⟩ = some (.int .i64 bh) := HX_bb2.out.cell 1
                      have xf1 : y2.frozen? ⟨u1.heap.size, 1, none⟩ = false := HX_bb2.out.free 1
                      have xc2 : y2.cell? ⟨u1.heap.size, 2, none⟩ = some (.int .i64 t0) := HX_bb2.out.cell 2
                      have xf2 : y2.frozen? ⟨u1.heap.size, 2, none⟩ = false := HX_bb2.out.free 2
                      have xc3 : y2.cell? ⟨u1.heap.size, 3, none⟩ = some (.int .i64 t1) := HX_bb2.out.cell 3
                      have xf3 : y2.frozen? ⟨u1.heap.size, 3, none⟩ = false := HX_bb2.out.free 3
                      go_simp
                      obtain ⟨y3, hy3⟩ : ∃ W, Hid (((((y2.setCell ⟨u1.heap.size, 0, none⟩ (.int .i64 p0)).setCell ⟨u1.heap.size, 1, none⟩ (.int .i64 p1)).setCell ⟨u1.heap.size, 2, none⟩ (.int .i64 0)).setCell ⟨u1.heap.size, 3, none⟩ (.int .i64 p3)) = W) := ⟨_, Lib.hid rfl⟩
                      rw [hy3.out]
                      have hky3 : Kept (u1.heap.size) (u1.heap.size + 1) y2 y3 := by rw [← hy3.out]; exact ((((Kept.refl _ _ _).setCell (p := ⟨u1.heap.size, 0, none⟩) (Nat.le_refl _) (Nat.lt_succ_self _) _).setCell (p := ⟨u1.heap.size, 1, none⟩) (Nat.le_refl _) (Nat.lt_succ_self _) _).setCell (p := ⟨u1.heap.size, 2, none⟩) (Nat.le_refl _) (Nat.lt_succ_self _) _).setCell (p := ⟨u1.heap.size, 3, none⟩) (Nat.le_refl _) (Nat.lt_succ_self _) _
                      have zy3 : y2.heap.size ≤ y3.heap.size := hky3.size
                      have hlo3 := HBy2.out.size
                      have HBy3 : Hid (Below wr.heap.size wr y3) := Lib.hid (HBy2.out.trans ((hky3.to_below (by have := HX_bb2.out.lt; omega)).mono (by omega)))
                      have HX_bb3 : Hid (Bx y3 u1.heap.size #[.int .i64 p0, .int .i64 p1, .int .i64 0, .int .i64 p3] 76) := Lib.hid (by have := ((((HX_bb2.out).set 0 (.int .i64 p0)).set 1 (.int .i64 p1)).set 2 (.int .i64 0)).set 3 (.int .i64 p3); rw [hy3.out] at this; exact this)
                      clear hHeld hy3 hky3 hlo3 xc0 xf0 xc1 xf1 xc2 xf2 xc3 xf3 HBy2 HX_bb2
                      refine hK.out _ _ (((HBy3.out.cell (p := (b.add J)) hbb1).trans HTA.out)) (fun hHeld => ?_)
                      clear hK K
                      try simp only [Act.put]
                      refine wpAnyH_done (by kernel_rfl) ?_ _
                      have HBu : Hid (Below w.heap.size w y3) := Lib.hid (HBw.out.trans (HBy3.out.mono hzw))
                      have HOu := Lib.hid (ownsRow_below HO.out HBy3.out)
                      have x0 : y3.cell? ⟨u1.heap.size, 0, none⟩ = some (.int .i64 p0) := HX_bb3.out.cell 0
                      have x1 : y3.cell? ⟨u1.heap.size, 1, none⟩ = some (.int .i64 p1) := HX_bb3.out.cell 1
                      have x2 : y3.cell? ⟨u1.heap.size, 2, none⟩ = some (.int .i64 0) := HX_bb3.out.cell 2
                      have x3 : y3.cell? ⟨u1.heap.size, 3, none⟩ = some (.int .i64 p3) := HX_bb3.out.cell 3
                      clear HO HBw HBy3 HX_bb3
                      have HOl := Lib.hid (HOu.out.alloc (.cells #[.int .i64 p0, .int .i64 p1, .int .i64 0, .int .i64 p3] 76))
                      have HLP : Hid (Rd (y3.alloc (.cells #[.int .i64 p0, .int .i64 p1, .int .i64 0, .int .i64 p3] 76)) (y3.heap.size + 1) 4 (some ⟨y3.heap.size, 0, none⟩) 1 (cTwin [(p0, p1, 0, p3)])) := Lib.hid (lit4_at (heap_alloc_new _ _))
                      go_wp2_with (at_builtin
                                   refine wpList_append_rd rfl (.tmp 95) (.tmp 97) _ rfl w.heap.size 76 _ 4 32 Try.underlying34 info_Twin rfl (by decide) (.slice Ao k co) k (cTwin (preT ks tag tp k s k)) rfl HOl.out _ _ 1 1 (cTwin [(p0, p1, 0, p3)]) rfl HLP.out (cTwin_one _) (by unfold maxLen; omega) (by omega) (by have := HBu.out.size; simp; omega) ?_
                                   intro v6 w6 hown hgr hat
                                   obtain ⟨A6, c6, hv6, ho6⟩ := Ow.of_own hown
                                   subst hv6
                                   have HO6 : Hid (w6.ownsRow w.heap.size 76 4 (.slice A6 (k + 1) c6) (k + 1) (cTwin (preT ks tag tp k s (k + 1)))) := Lib.hid (by rw [HOT.out, cTwin_app]; exact hown)
                                   have HB6 : Hid (Below w.heap.size w w6) := Lib.hid (below_grown (HBu.out.alloc HBu.out.size _) hgr (fun g e => own_ge HOu.out e) (by have := HBu.out.size; simp; omega))
                                   clear hown hgr hat ho6)
                      go_roundw
                      case rel => exact ⟨k + 1, A6, c6, re, by omega, by go_num, rfl, rfl, by omega, by omega, HRF, HO6, HB6⟩
                      case measure => simp [intOf] <;> omega
                    exact AllReadyH.nil
                  exact AllReadyH.nil
                exact AllReadyH.nil
              · have e2 : ¬ (k : Int) = (q : Int) := by omega
                rw [if_neg hkq] at HRS HOT
                have HBu : Hid (Below w.heap.size w u4) := Lib.hid (HBw.out.trans (HBl4.out.mono hzw))
                have HOu := Lib.hid (ownsRow_below HO.out HBl4.out)
                have hta := (HBl4.out.cell (p := b.add J) hbb1).trans HTA.out
                have HXu := HX_b4
                clear HBl4 HX_b4 HO HBw
                have HRF : Hid ((re + t0) % 113 = othK tp q (k + 1)) := Lib.hid HRS.out.symm
                have x0 : u4.cell? ⟨u1.heap.size, 0, none⟩ = some (.int .i64 bk) := HXu.out.cell 0
                have x1 : u4.cell? ⟨u1.heap.size, 1, none⟩ = some (.int .i64 bh) := HXu.out.cell 1
                have x2 : u4.cell? ⟨u1.heap.size, 2, none⟩ = some (.int .i64 t0) := HXu.out.cell 2
                have x3 : u4.cell? ⟨u1.heap.size, 3, none⟩ = some (.int .i64 t1) := HXu.out.cell 3
                have iw3 : IntKind.i64.wrap (re + t0) = re + t0 := IntWalk.i64_in _ (by omega)
                have im3 : (re + t0).tmod 113 = (re + t0) % 113 := Int.tmod_eq_emod_of_nonneg (by omega)
                clear hkq HRS
                have HOl := Lib.hid (HOu.out.alloc (.cells #[.int .i64 bk, .int .i64 bh, .int .i64 t0, .int .i64 t1] 76))
                have HLP : Hid (Rd (u4.alloc (.cells #[.int .i64 bk, .int .i64 bh, .int .i64 t0, .int .i64 t1] 76)) (u4.heap.size + 1) 4 (some ⟨u4.heap.size, 0, none⟩) 1 (cTwin [(bk, bh, t0, t1)])) := Lib.hid (lit4_at (heap_alloc_new _ _))
                go_wp2_with (at_builtin
                             refine wpList_append_rd rfl (.tmp 95) (.tmp 97) _ rfl w.heap.size 76 _ 4 32 Try.underlying34 info_Twin rfl (by decide) (.slice Ao k co) k (cTwin (preT ks tag tp q s k)) rfl HOl.out _ _ 1 1 (cTwin [(bk, bh, t0, t1)]) rfl HLP.out (cTwin_one _) (by unfold maxLen; omega) (by omega) (by have := HBu.out.size; simp; omega) ?_
                             intro v6 w6 hown hgr hat
                             obtain ⟨A6, c6, hv6, ho6⟩ := Ow.of_own hown
                             subst hv6
                             have HO6 : Hid (w6.ownsRow w.heap.size 76 4 (.slice A6 (k + 1) c6) (k + 1) (cTwin (preT ks tag tp q s (k + 1)))) := Lib.hid (by rw [HOT.out, cTwin_app]; exact hown)
                             have HB6 : Hid (Below w.heap.size w w6) := Lib.hid (below_grown (HBu.out.alloc HBu.out.size _) hgr (fun g e => own_ge HOu.out e) (by have := HBu.out.size; simp; omega))
                             clear hown hgr hat ho6)
                go_roundw
                case rel => exact ⟨k + 1, A6, c6, (re + t0) % 113, by omega, by go_num, rfl, rfl, by omega, by omega, HRF, HO6, HB6⟩
                case measure => simp [intOf] <;> omega
            exact AllReadyH.nil
          exact AllReadyH.nil
        exact AllReadyH.nil
      refine AllReadyH.cons (o := { dst := some 17, op := Op.alloc 76, type := 0, pos := "l16_rings.go:76", after := #[], guard := none }) rfl (fun K hK => ?_) ?_
      · go_simp
        obtain ⟨u1, hw1⟩ : ∃ W, Hid (u0.alloc (.cells #[.int .i64 0, .int .i64 0, .int .i64 0, .int .i64 0] 76) = W) := ⟨_, Lib.hid rfl⟩
        rw [hw1.out]
        have zs1 : u0.heap.size < u1.heap.size := by rw [← hw1.out, World.size_alloc]; omega
        have HBl1 : Hid (Below wr.heap.size wr u1) := Lib.hid (by rw [← hw1.out]; exact HBl0.out.alloc HBl0.out.size _)
        have HX_b1 : Hid (Bx u1 u0.heap.size #[.int .i64 0, .int .i64 0, .int .i64 0, .int .i64 0] 76) := Lib.hid (by rw [← hw1.out]; exact Bx.new _ _ _)
        have hab1 : Below u0.heap.size u0 u1 := by rw [← hw1.out]; exact (Below.refl _ _).alloc (Nat.le_refl _) _
        clear hHeld hw1 hab1 HBl0
        refine hK.out _ _ ⟨((HBl1.out.cell (p := (a.add k)) hba).trans HKA.out), ((HBl1.out.cell (p := (b.add J)) hbb1).trans HTA.out), ((HBl1.out.cell (p := ⟨b.block, b.off + (J + 1), none⟩) hbb2).trans HTB.out)⟩ (fun hHeld => ?_)
        clear hK K
        try simp only [Act.put, List.setIfInBounds_toArray, List.set_cons_zero, List.set_cons_succ]
        refine wpAnyH_ready (rs := [0]) (by kernel_rfl) (by simp) ?_
        refine AllReadyH.cons (o := { dst := some 52, op := Op.call { callee := Callee.value (Operand.func 56), args := #[], argTypes := #[] }, type := 80, pos := "l16_rings.go:76", after := #[], guard := none }) rfl (fun K hK => ?_) ?_
        · go_simp
          refine ((HBA u1).out).mono ?_
          rintro e u2 ⟨rfl, hb_⟩
          have zs2 : u1.heap.size ≤ u2.heap.size := hb_.size
          have HBl2 : Hid (Below wr.heap.size wr u2) := Lib.hid (HBl1.out.trans (hb_.mono HBl1.out.size))
          have HX_b2 : Hid (Bx u2 u0.heap.size #[.int .i64 0, .int .i64 0, .int .i64 0, .int .i64 0] 76) := Lib.hid (HX_b1.out.below hb_ HX_b1.out.lt)
          clear hHeld hb_ HBl1 HX_b1
          (try dsimp only)
          (try go_wp2_with fail)
          refine hK.out _ _ ⟨((HBl2.out.cell (p := (a.add k)) hba).trans HKA.out), ((HBl2.out.cell (p := (b.add J)) hbb1).trans HTA.out), ((HBl2.out.cell (p := ⟨b.block, b.off + (J + 1), none⟩) hbb2).trans HTB.out)⟩ (fun hHeld => ?_)
          clear hK K
          try simp only [Act.put, List.setIfInBounds_toArray, List.set_cons_zero, List.set_cons_succ]
          refine wpAnyH_ready (rs := [18]) (by kernel_rfl) (by simp) ?_
          refine AllReadyH.cons (o := { dst := some 70, op := Op.call { callee := Callee.value (Operand.func 55), args := #[Operand.tmp 52, Operand.tmp 58, Operand.tmp 63, Operand.tmp 69], argTypes := #[80, 80, 3, 3] }, type := 77, pos := "l16_rings.go:76", after := #[{ on := 0, ground := Ground.data }, { on := 6, ground := Ground.data }, { on := 11, ground := Ground.data }, { on := 17, ground := Ground.data }, { on := 0, ground := Ground.chain }], guard := none }) rfl (fun K hK => ?_) ?_
          · go_simp
            refine ((HFE u2).out).mono ?_
            rintro e u3 ⟨rfl, hb_⟩
            have zs3 : u2.heap.size ≤ u3.heap.size := hb_.size
            have HBl3 : Hid (Below wr.heap.size wr u3) := Lib.hid (HBl2.out.trans (hb_.mono HBl2.out.size))
            have HX_b3 : Hid (Bx u3 u0.heap.size #[.int .i64 0, .int .i64 0, .int .i64 0, .int .i64 0] 76) := Lib.hid (HX_b2.out.below hb_ HX_b2.out.lt)
            clear hHeld hb_ HBl2 HX_b2
            (try dsimp only)
            (try go_wp2_with fail)
            refine hK.out _ _ ⟨((HBl3.out.cell (p := (a.add k)) hba).trans HKA.out), ((HBl3.out.cell (p := (b.add J)) hbb1).trans HTA.out), ((HBl3.out.cell (p := ⟨b.block, b.off + (J + 1), none⟩) hbb2).trans HTB.out)⟩ (fun hHeld => ?_)
            clear hK K
            try simp only [Act.put, List.setIfInBounds_toArray, List.set_cons_zero, List.set_cons_succ]
            refine wpAnyH_take (i := 19) (oi := { dst := some 51, op := Op.move (Operand.tmp 70), type := 77, pos := "l16_rings.go:76", after := #[{ on := 18, ground := Ground.data }], guard := none }) (v := ?_) rfl (by kernel_rfl) (by kernel_rfl) (by kernel_rfl) (fun _ _ _ h => h) (Or.inl ⟨by rfl, ?_⟩) hHeld ?_
            rotate_left
            · intro w hSw; obtain ⟨s0, s1, s2⟩ := hSw; (try dsimp only at hSw); go_simp; (try with_reducible rfl)
            try simp only [Act.put, List.setIfInBounds_toArray, List.set_cons_zero, List.set_cons_succ]
            refine wpAnyH_take (i := 20) (oi := { dst := some 71, op := Op.extract (Operand.tmp 51) 0, type := 76, pos := "l16_rings.go:76", after := #[{ on := 19, ground := Ground.data }], guard := none }) (v := ?_) rfl (by kernel_rfl) (by kernel_rfl) (by kernel_rfl) (fun _ _ _ h => h) (Or.inl ⟨by rfl, ?_⟩) hHeld ?_
            rotate_left
            · intro w hSw; obtain ⟨s0, s1, s2⟩ := hSw; (try dsimp only at hSw); go_simp; (try with_reducible rfl)
            try simp only [Act.put, List.setIfInBounds_toArray, List.set_cons_zero, List.set_cons_succ]
            refine wpAnyH_take (i := 21) (oi := { dst := some 72, op := Op.extract (Operand.tmp 51) 1, type := 4, pos := "l16_rings.go:76", after := #[{ on := 19, ground := Ground.data }, { on := 23, ground := Ground.gcOnly Departure.lateStores }], guard := none }) (v := ?_) rfl (by kernel_rfl) (by kernel_rfl) (by kernel_rfl) (fun _ _ _ h => h) (Or.inl ⟨by rfl, ?_⟩) hHeld ?_
            rotate_left
            · intro w hSw; obtain ⟨s0, s1, s2⟩ := hSw; (try dsimp only at hSw); go_simp; (try with_reducible rfl)
            try simp only [Act.put, List.setIfInBounds_toArray, List.set_cons_zero, List.set_cons_succ]
            refine wpAnyH_ready (rs := [23]) (by kernel_rfl) (by simp) ?_
            refine AllReadyH.cons (o := { dst := none, op := Op.store 76 (Operand.tmp 17) (Operand.tmp 71), type := 0, pos := "l16_rings.go:76", after := #[{ on := 22, ground := Ground.data }, { on := 20, ground := Ground.data }, { on := 18, ground := Ground.chain }, { on := 0, ground := Ground.phase }, { on := 1, ground := Ground.phase }, { on := 2, ground := Ground.phase }, { on := 3, ground := Ground.phase }, { on := 4, ground := Ground.phase }, { on := 5, ground := Ground.phase }, { on := 6, ground := Ground.phase }, { on := 7, ground := Ground.phase }, { on := 8, ground := Ground.phase }, { on := 9, ground := Ground.phase }, { on := 10, ground := Ground.phase }, { on := 11, ground := Ground.phase }, { on := 12, ground := Ground.phase }, { on := 13, ground := Ground.phase }, { on := 14, ground := Ground.phase }, { on := 15, ground := Ground.phase }, { on := 16, ground := Ground.phase }, { on := 17, ground := Ground.phase }, { on := 18, ground := Ground.phase }, { on := 19, ground := Ground.phase }, { on := 20, ground := Ground.phase }, { on := 21, ground := Ground.textOnly Departure.lateStores }, { on := 22, ground := Ground.phase }], guard := none }) rfl (fun K hK => ?_) ?_
            · have xc0 : u3.cell? ⟨u0.heap.size, 0, none⟩ = some (.int .i64 0) := HX_b3.out.cell 0
              have xf0 : u3.frozen? ⟨u0.heap.size, 0, none⟩ = false := HX_b3.out.free 0
              have xc1 : u3.cell? ⟨u0.heap.size, 1, none⟩ = some (.int .i64 0) := HX_b3.out.cell 1
              have xf1 : u3.frozen? ⟨u0.heap.size, 1, none⟩ = false := HX_b3.out.free 1
              have xc2 : u3.cell? ⟨u0.heap.size, 2, none⟩ = some (.int .i64 0) := HX_b3.out.cell 2
              have xf2 : u3.frozen? ⟨u0.heap.size, 2, none⟩ = false := HX_b3.out.free 2
              have xc3 : u3.cell? ⟨u0.heap.size, 3, none⟩ = some (.int .i64 0) := HX_b3.out.cell 3
              have xf3 : u3.frozen? ⟨u0.heap.size, 3, none⟩ = false := HX_b3.out.free 3
              go_simp
              obtain ⟨u4, hw4⟩ : ∃ W, Hid (((((u3.setCell ⟨u0.heap.size, 0, none⟩ (.int .i64 bk)).setCell ⟨u0.heap.size, 1, none⟩ (.int .i64 bh)).setCell ⟨u0.heap.size, 2, none⟩ (.int .i64 t0)).setCell ⟨u0.heap.size, 3, none⟩ (.int .i64 t1)) = W) := ⟨_, Lib.hid rfl⟩
              rw [hw4.out]
              have hk4 : Kept (u0.heap.size) (u0.heap.size + 1) u3 u4 := by rw [← hw4.out]; exact ((((Kept.refl _ _ _).setCell (p := ⟨u0.heap.size, 0, none⟩) (Nat.le_refl _) (Nat.lt_succ_self _) _).setCell (p := ⟨u0.heap.size, 1, none⟩) (Nat.le_refl _) (Nat.lt_succ_self _) _).setCell (p := ⟨u0.heap.size, 2, none⟩) (Nat.le_refl _) (Nat.lt_succ_self _) _).setCell (p := ⟨u0.heap.size, 3, none⟩) (Nat.le_refl _) (Nat.lt_succ_self _) _
              have zs4 : u3.heap.size ≤ u4.heap.size := hk4.size
              have hlo4 := HBl3.out.size
              have HBl4 : Hid (Below wr.heap.size wr u4) := Lib.hid (HBl3.out.trans ((hk4.to_below (by have := HX_b3.out.lt; omega)).mono (by omega)))
              have HX_b4 : Hid (Bx u4 u0.heap.size #[.int .i64 bk, .int .i64 bh, .int .i64 t0, .int .i64 t1] 76) := Lib.hid (by have := ((((HX_b3.out).set 0 (.int .i64 bk)).set 1 (.int .i64 bh)).set 2 (.int .i64 t0)).set 3 (.int .i64 t1); rw [hw4.out] at this; exact this)
              clear hHeld hw4 hk4 hlo4 xc0 xf0 xc1 xf1 xc2 xf2 xc3 xf3 HBl3 HX_b3
              refine hK.out _ _ ⟨((HBl4.out.cell (p := (a.add k)) hba).trans HKA.out), ((HBl4.out.cell (p := (b.add J)) hbb1).trans HTA.out), ((HBl4.out.cell (p := ⟨b.block, b.off + (J + 1), none⟩) hbb2).trans HTB.out)⟩ (fun hHeld => ?_)
              clear hK K
              try simp only [Act.put]
              refine wpAnyH_take (i := 24) (oi := { dst := some 18, op := Op.assign (Operand.tmp 72), type := 4, pos := "l16_rings.go:76", after := #[{ on := 21, ground := Ground.data }, { on := 23, ground := Ground.chain }, { on := 0, ground := Ground.phase }, { on := 1, ground := Ground.phase }, { on := 2, ground := Ground.phase }, { on := 3, ground := Ground.phase }, { on := 4, ground := Ground.phase }, { on := 5, ground := Ground.phase }, { on := 6, ground := Ground.phase }, { on := 7, ground := Ground.phase }, { on := 8, ground := Ground.phase }, { on := 9, ground := Ground.phase }, { on := 10, ground := Ground.phase }, { on := 11, ground := Ground.phase }, { on := 12, ground := Ground.phase }, { on := 13, ground := Ground.phase }, { on := 14, ground := Ground.phase }, { on := 15, ground := Ground.phase }, { on := 16, ground := Ground.phase }, { on := 17, ground := Ground.phase }, { on := 18, ground := Ground.phase }, { on := 19, ground := Ground.phase }, { on := 20, ground := Ground.phase }, { on := 21, ground := Ground.phase }, { on := 22, ground := Ground.phase }, { on := 23, ground := Ground.phase }], guard := none }) (v := ?_) rfl (by kernel_rfl) (by kernel_rfl) (by kernel_rfl) (fun _ _ _ h => h) (Or.inl ⟨by rfl, ?_⟩) hHeld ?_
              rotate_left
              · intro w hSw; obtain ⟨s0, s1, s2⟩ := hSw; (try dsimp only at hSw); go_simp; (try with_reducible rfl)
              try simp only [Act.put, List.setIfInBounds_toArray, List.set_cons_zero, List.set_cons_succ]
              refine wpAnyH_done (by kernel_rfl) ?_ _
              by_cases hkq : k = q
              · subst hkq
                rw [if_pos rfl] at HRS
                have HRF : Hid (re = othK tp k (k + 1)) := Lib.hid HRS.out.symm
                obtain ⟨p0, hp0⟩ : ∃ v, Hid (powI 4 t0 227 = v) := ⟨_, Lib.hid rfl⟩
                obtain ⟨p1, hp1⟩ : ∃ v, Hid (powI 9 t0 227 = v) := ⟨_, Lib.hid rfl⟩
                obtain ⟨p3, hp3⟩ : ∃ v, Hid ((t0 + 0 * s) % 113 = v) := ⟨_, Lib.hid rfl⟩
                have HMK := fun W => Lib.hid (s_makeT s t0 0 W s0 s1 t00 t01 (by omega) (by omega))
                simp only [hp0.out, hp1.out, hp3.out] at HMK
                rw [if_pos rfl, lownT, hp0.out, hp1.out, hp3.out] at HOT
                have HB := HBl4
                have HX_bb := HX_b4
                have hBB := HX_b4.out.lt
                clear hp0 hp1 hp3 HRS HBl4 HX_b4 HFE HKA HTB
                go_upto_region 11 with (fail)
                refine wp_region_held_drew (S := fun w' => w'.cell? (b.add J) = some (.int .i64 t0)) (by kernel_rfl) ((HB.out.cell (p := (b.add J)) hbb1).trans HTA.out) (fun hHeld => ?_)
                obtain ⟨y0, hv0⟩ : ∃ y0, Hid (u4.drew = y0) := ⟨_, Lib.hid rfl⟩
                rw [hv0.out] at hHeld ⊢
                have zy0 : u4.heap.size = y0.heap.size := by rw [← hv0.out]; rfl
                replace zy0 := Nat.le_of_eq zy0
                have HBy0 : Hid (Below wr.heap.size wr y0) := Lib.hid (by rw [← hv0.out]; exact HB.out.drew)
                have HX_bb0 : Hid (Bx y0 u0.heap.size #[.int .i64 bk, .int .i64 bh, .int .i64 t0, .int .i64 t1] 76) := Lib.hid (by rw [← hv0.out]; exact HX_bb.out)
                clear hv0
                refine wpAnyH_take (i := 1) (oi := { dst := some 78, op := Op.move (Operand.tmp 2), type := 3, pos := "l16_rings.go:78", after := #[], guard := none }) (v := ?_) rfl (by kernel_rfl) (by kernel_rfl) (by kernel_rfl) (fun _ _ _ h => h) (Or.inl ⟨by rfl, ?_⟩) hHeld ?_
                rotate_left
                · intro w hSw; (try dsimp only at hSw); go_simp; (try with_reducible rfl)
                try simp only [Act.put, List.setIfInBounds_toArray, List.set_cons_zero, List.set_cons_succ]
                refine wpAnyH_take (i := 2) (oi := { dst := some 79, op := Op.move (Operand.tmp 4), type := 22, pos := "l16_rings.go:78", after := #[], guard := none }) (v := ?_) rfl (by kernel_rfl) (by kernel_rfl) (by kernel_rfl) (fun _ _ _ h => h) (Or.inl ⟨by rfl, ?_⟩) hHeld ?_
                rotate_left
                · intro w hSw; (try dsimp only at hSw); go_simp; (try with_reducible rfl)
                try simp only [Act.put, List.setIfInBounds_toArray, List.set_cons_zero, List.set_cons_succ]
                refine wpAnyH_take (i := 3) (oi := { dst := some 80, op := Op.move (Operand.tmp 16), type := 3, pos := "l16_rings.go:78", after := #[], guard := none }) (v := ?_) rfl (by kernel_rfl) (by kernel_rfl) (by kernel_rfl) (fun _ _ _ h => h) (Or.inl ⟨by rfl, ?_⟩) hHeld ?_
                rotate_left
                · intro w hSw; (try dsimp only at hSw); go_simp; (try with_reducible rfl)
                try simp only [Act.put, List.setIfInBounds_toArray, List.set_cons_zero, List.set_cons_succ]
                refine wpAnyH_take (i := 4) (oi := { dst := some 81, op := Op.binOp BinOp.mul 3 (Operand.const (Value.int IntKind.i64 2)) (Operand.tmp 80) 3, type := 3, pos := "l16_rings.go:78", after := #[{ on := 3, ground := Ground.data }], guard := none }) (v := ?_) rfl (by kernel_rfl) (by kernel_rfl) (by kernel_rfl) (fun _ _ _ h => h) (Or.inl ⟨by rfl, ?_⟩) hHeld ?_
                rotate_left
                · intro w hSw; (try dsimp only at hSw); go_simp; (try with_reducible rfl)
                try simp only [Act.put, List.setIfInBounds_toArray, List.set_cons_zero, List.set_cons_succ]
                refine wpAnyH_take (i := 5) (oi := { dst := some 82, op := Op.indexAddr 22 (Operand.tmp 79) (Operand.tmp 81), type := 0, pos := "l16_rings.go:78", after := #[{ on := 2, ground := Ground.data }, { on := 4, ground := Ground.data }], guard := none }) (v := ?_) rfl (by kernel_rfl) (by kernel_rfl) (by kernel_rfl) (fun _ _ _ h => h) (Or.inl ⟨by rfl, ?_⟩) hHeld ?_
                rotate_left
                · intro w hSw; (try dsimp only at hSw); go_simp; (try with_reducible rfl)
                try simp only [Act.put, List.setIfInBounds_toArray, List.set_cons_zero, List.set_cons_succ]
                refine wpAnyH_take (i := 6) (oi := { dst := some 83, op := Op.load 3 (Operand.tmp 82), type := 3, pos := "l16_rings.go:78", after := #[{ on := 5, ground := Ground.data }], guard := none }) (v := ?_) rfl (by kernel_rfl) (by kernel_rfl) (by kernel_rfl) (fun _ _ _ h => h) (Or.inl ⟨by rfl, ?_⟩) hHeld ?_
                rotate_left
                · intro w hSw; (try dsimp only at hSw); go_simp; (try with_reducible rfl)
                try simp only [Act.put, List.setIfInBounds_toArray, List.set_cons_zero, List.set_cons_succ]
                refine wpAnyH_ready (rs := [0]) (by kernel_rfl) (by simp) ?_
                refine AllReadyH.cons (o := { dst := some 77, op := Op.call { callee := Callee.value (Operand.func 56), args := #[], argTypes := #[] }, type := 80, pos := "l16_rings.go:78", after := #[], guard := none }) rfl (fun K hK => ?_) ?_
                · go_simp
                  refine ((HBA y0).out).mono ?_
                  rintro e y1 ⟨rfl, hb_⟩
                  have zy1 : y0.heap.size ≤ y1.heap.size := hb_.size
                  have HBy1 : Hid (Below wr.heap.size wr y1) := Lib.hid (HBy0.out.trans (hb_.mono HBy0.out.size))
                  have HX_bb1 : Hid (Bx y1 u0.heap.size #[.int .i64 bk, .int .i64 bh, .int .i64 t0, .int .i64 t1] 76) := Lib.hid (HX_bb0.out.below hb_ HX_bb0.out.lt)
                  clear hHeld hb_ HBy0 HX_bb0
                  (try dsimp only)
                  (try go_wp2_with fail)
                  refine hK.out _ _ (((HBy1.out.cell (p := (b.add J)) hbb1).trans HTA.out)) (fun hHeld => ?_)
                  clear hK K
                  try simp only [Act.put, List.setIfInBounds_toArray, List.set_cons_zero, List.set_cons_succ]
                  refine wpAnyH_ready (rs := [7]) (by kernel_rfl) (by simp) ?_
                  refine AllReadyH.cons (o := { dst := some 84, op := Op.call { callee := Callee.value (Operand.func 57), args := #[Operand.tmp 77, Operand.tmp 78, Operand.tmp 83, Operand.const (Value.int IntKind.i64 0)], argTypes := #[80, 3, 3, 3] }, type := 77, pos := "l16_rings.go:78", after := #[{ on := 0, ground := Ground.data }, { on := 1, ground := Ground.data }, { on := 6, ground := Ground.data }, { on := 0, ground := Ground.chain }], guard := none }) rfl (fun K hK => ?_) ?_
                  · go_simp
                    refine ((HMK y1).out).mono ?_
                    rintro e y2 ⟨rfl, hb_⟩
                    have zy2 : y1.heap.size ≤ y2.heap.size := hb_.size
                    have HBy2 : Hid (Below wr.heap.size wr y2) := Lib.hid (HBy1.out.trans (hb_.mono HBy1.out.size))
                    have HX_bb2 : Hid (Bx y2 u0.heap.size #[.int .i64 bk, .int .i64 bh, .int .i64 t0, .int .i64 t1] 76) := Lib.hid (HX_bb1.out.below hb_ HX_bb1.out.lt)
                    clear hHeld hb_ HBy1 HX_bb1
                    (try dsimp only)
                    (try go_wp2_with fail)
                    refine hK.out _ _ (((HBy2.out.cell (p := (b.add J)) hbb1).trans HTA.out)) (fun hHeld => ?_)
                    clear hK K
                    try simp only [Act.put, List.setIfInBounds_toArray, List.set_cons_zero, List.set_cons_succ]
                    refine wpAnyH_take (i := 8) (oi := { dst := some 76, op := Op.move (Operand.tmp 84), type := 77, pos := "l16_rings.go:78", after := #[{ on := 7, ground := Ground.data }], guard := none }) (v := ?_) rfl (by kernel_rfl) (by kernel_rfl) (by kernel_rfl) (fun _ _ _ h => h) (Or.inl ⟨by rfl, ?_⟩) hHeld ?_
                    rotate_left
                    · intro w hSw; (try dsimp only at hSw); go_simp; (try with_reducible rfl)
                    try simp only [Act.put, List.setIfInBounds_toArray, List.set_cons_zero, List.set_cons_succ]
                    refine wpAnyH_take (i := 9) (oi := { dst := some 85, op := Op.extract (Operand.tmp 76) 0, type := 76, pos := "l16_rings.go:78", after := #[{ on := 8, ground := Ground.data }], guard := none }) (v := ?_) rfl (by kernel_rfl) (by kernel_rfl) (by kernel_rfl) (fun _ _ _ h => h) (Or.inl ⟨by rfl, ?_⟩) hHeld ?_
                    rotate_left
                    · intro w hSw; (try dsimp only at hSw); go_simp; (try with_reducible rfl)
                    try simp only [Act.put, List.setIfInBounds_toArray, List.set_cons_zero, List.set_cons_succ]
                    refine wpAnyH_take (i := 10) (oi := { dst := some 86, op := Op.extract (Operand.tmp 76) 1, type := 4, pos := "l16_rings.go:78", after := #[{ on := 8, ground := Ground.data }, { on := 11, ground := Ground.gcOnly Departure.lateStores }], guard := none }) (v := ?_) rfl (by kernel_rfl) (by kernel_rfl) (by kernel_rfl) (fun _ _ _ h => h) (Or.inl ⟨by rfl, ?_⟩) hHeld ?_
                    rotate_left
                    · intro w hSw; (try dsimp only at hSw); go_simp; (try with_reducible rfl)
                    try simp only [Act.put, List.setIfInBounds_toArray, List.set_cons_zero, List.set_cons_succ]
                    refine wpAnyH_ready (rs := [11]) (by kernel_rfl) (by simp) ?_
                    refine AllReadyH.cons (o := { dst := none, op := Op.store 76 (Operand.tmp 17) (Operand.tmp 85), type := 0, pos := "l16_rings.go:78", after := #[{ on := 9, ground := Ground.data }, { on := 7, ground := Ground.chain }, { on := 0, ground := Ground.phase }, { on := 1, ground := Ground.phase }, { on := 2, ground := Ground.phase }, { on := 3, ground := Ground.phase }, { on := 4, ground := Ground.phase }, { on := 5, ground := Ground.phase }, { on := 6, ground := Ground.phase }, { on := 7, ground := Ground.phase }, { on := 8, ground := Ground.phase }, { on := 9, ground := Ground.phase }, { on := 10, ground := Ground.textOnly Departure.lateStores }], guard := none }) rfl (fun K hK => ?_) ?_
                    · have xc0 : y2.cell? ⟨u0.heap.size, 0, none⟩ = some (.int .i64 bk) := HX_bb2.out.cell 0
                      have xf0 : y2.frozen? ⟨u0.heap.size, 0, none⟩ = false := HX_bb2.out.free 0
                      have xc1 : y2.cell? ⟨u0.heap.size, 1, none⟩ = some (.int .i64 bh) := HX_bb2.out.cell 1
                      have xf1 : y2.frozen? ⟨u0.heap.size, 1, none⟩ = false := HX_bb2.out.free 1
                      have xc2 : y2.cell? ⟨u0.heap.size, 2, none⟩ = some (.int .i64 t0) := HX_bb2.out.cell 2
                      have xf2 : y2.frozen? ⟨u0.heap.size, 2, none⟩ = false := HX_bb2.out.free 2
                      have xc3 : y2.cell? ⟨u0.heap.size, 3, none⟩ = some (.int .i64 t1) := HX_bb2.out.cell 3
                      have xf3 : y2.frozen? ⟨u0.heap.size, 3, none⟩ = false := HX_bb2.out.free 3
                      go_simp
                      obtain ⟨y3, hy3⟩ : ∃ W, Hid (((((y2.setCell ⟨u0.heap.size, 0, none⟩ (.int .i64 p0)).setCell ⟨u0.heap.size, 1, none⟩ (.int .i64 p1)).setCell ⟨u0.heap.size, 2, none⟩ (.int .i64 0)).setCell ⟨u0.heap.size, 3, none⟩ (.int .i64 p3)) = W) := ⟨_, Lib.hid rfl⟩
                      rw [hy3.out]
                      have hky3 : Kept (u0.heap.size) (u0.heap.size + 1) y2 y3 := by rw [← hy3.out]; exact ((((Kept.refl _ _ _).setCell (p := ⟨u0.heap.size, 0, none⟩) (Nat.le_refl _) (Nat.lt_succ_self _) _).setCell (p := ⟨u0.heap.size, 1, none⟩) (Nat.le_refl _) (Nat.lt_succ_self _) _).setCell (p := ⟨u0.heap.size, 2, none⟩) (Nat.le_refl _) (Nat.lt_succ_self _) _).setCell (p := ⟨u0.heap.size, 3, none⟩) (Nat.le_refl _) (Nat.lt_succ_self _) _
                      have zy3 : y2.heap.size ≤ y3.heap.size := hky3.size
                      have hlo3 := HBy2.out.size
                      have HBy3 : Hid (Below wr.heap.size wr y3) := Lib.hid (HBy2.out.trans ((hky3.to_below (by have := HX_bb2.out.lt; omega)).mono (by omega)))
                      have HX_bb3 : Hid (Bx y3 u0.heap.size #[.int .i64 p0, .int .i64 p1, .int .i64 0, .int .i64 p3] 76) := Lib.hid (by have := ((((HX_bb2.out).set 0 (.int .i64 p0)).set 1 (.int .i64 p1)).set 2 (.int .i64 0)).set 3 (.int .i64 p3); rw [hy3.out] at this; exact this)
                      clear hHeld hy3 hky3 hlo3 xc0 xf0 xc1 xf1 xc2 xf2 xc3 xf3 HBy2 HX_bb2
                      refine hK.out _ _ (((HBy3.out.cell (p := (b.add J)) hbb1).trans HTA.out)) (fun hHeld => ?_)
                      clear hK K
                      try simp only [Act.put]
                      refine wpAnyH_done (by kernel_rfl) ?_ _
                      have HBu : Hid (Below w.heap.size w y3) := Lib.hid (HBw.out.trans (HBy3.out.mono hzw))
                      have HOu := Lib.hid (ownsRow_below HO.out HBy3.out)
                      have x0 : y3.cell? ⟨u0.heap.size, 0, none⟩ = some (.int .i64 p0) := HX_bb3.out.cell 0
                      have x1 : y3.cell? ⟨u0.heap.size, 1, none⟩ = some (.int .i64 p1) := HX_bb3.out.cell 1
                      have x2 : y3.cell? ⟨u0.heap.size, 2, none⟩ = some (.int .i64 0) := HX_bb3.out.cell 2
                      have x3 : y3.cell? ⟨u0.heap.size, 3, none⟩ = some (.int .i64 p3) := HX_bb3.out.cell 3
                      clear HO HBw HBy3 HX_bb3
                      have HOl := Lib.hid (HOu.out.alloc (.cells #[.int .i64 p0, .int .i64 p1, .int .i64 0, .int .i64 p3] 76))
                      have HLP : Hid (Rd (y3.alloc (.cells #[.int .i64 p0, .int .i64 p1, .int .i64 0, .int .i64 p3] 76)) (y3.heap.size + 1) 4 (some ⟨y3.heap.size, 0, none⟩) 1 (cTwin [(p0, p1, 0, p3)])) := Lib.hid (lit4_at (heap_alloc_new _ _))
                      go_wp2_with (at_builtin
                                   refine wpList_append_rd rfl (.tmp 95) (.tmp 97) _ rfl w.heap.size 76 _ 4 32 Try.underlying34 info_Twin rfl (by decide) (.slice Ao k co) k (cTwin (preT ks tag tp k s k)) rfl HOl.out _ _ 1 1 (cTwin [(p0, p1, 0, p3)]) rfl HLP.out (cTwin_one _) (by unfold maxLen; omega) (by omega) (by have := HBu.out.size; simp; omega) ?_
                                   intro v6 w6 hown hgr hat
                                   obtain ⟨A6, c6, hv6, ho6⟩ := Ow.of_own hown
                                   subst hv6
                                   have HO6 : Hid (w6.ownsRow w.heap.size 76 4 (.slice A6 (k + 1) c6) (k + 1) (cTwin (preT ks tag tp k s (k + 1)))) := Lib.hid (by rw [HOT.out, cTwin_app]; exact hown)
                                   have HB6 : Hid (Below w.heap.size w w6) := Lib.hid (below_grown (HBu.out.alloc HBu.out.size _) hgr (fun g e => own_ge HOu.out e) (by have := HBu.out.size; simp; omega))
                                   clear hown hgr hat ho6)
                      go_roundw
                      case rel => exact ⟨k + 1, A6, c6, re, by omega, by go_num, rfl, rfl, by omega, by omega, HRF, HO6, HB6⟩
                      case measure => simp [intOf] <;> omega
                    exact AllReadyH.nil
                  exact AllReadyH.nil
                exact AllReadyH.nil
              · have e2 : ¬ (k : Int) = (q : Int) := by omega
                rw [if_neg hkq] at HRS HOT
                have HBu : Hid (Below w.heap.size w u4) := Lib.hid (HBw.out.trans (HBl4.out.mono hzw))
                have HOu := Lib.hid (ownsRow_below HO.out HBl4.out)
                have hta := (HBl4.out.cell (p := b.add J) hbb1).trans HTA.out
                have HXu := HX_b4
                clear HBl4 HX_b4 HO HBw
                have HRF : Hid ((re + t0) % 113 = othK tp q (k + 1)) := Lib.hid HRS.out.symm
                have x0 : u4.cell? ⟨u0.heap.size, 0, none⟩ = some (.int .i64 bk) := HXu.out.cell 0
                have x1 : u4.cell? ⟨u0.heap.size, 1, none⟩ = some (.int .i64 bh) := HXu.out.cell 1
                have x2 : u4.cell? ⟨u0.heap.size, 2, none⟩ = some (.int .i64 t0) := HXu.out.cell 2
                have x3 : u4.cell? ⟨u0.heap.size, 3, none⟩ = some (.int .i64 t1) := HXu.out.cell 3
                have iw3 : IntKind.i64.wrap (re + t0) = re + t0 := IntWalk.i64_in _ (by omega)
                have im3 : (re + t0).tmod 113 = (re + t0) % 113 := Int.tmod_eq_emod_of_nonneg (by omega)
                clear hkq HRS
                have HOl := Lib.hid (HOu.out.alloc (.cells #[.int .i64 bk, .int .i64 bh, .int .i64 t0, .int .i64 t1] 76))
                have HLP : Hid (Rd (u4.alloc (.cells #[.int .i64 bk, .int .i64 bh, .int .i64 t0, .int .i64 t1] 76)) (u4.heap.size + 1) 4 (some ⟨u4.heap.size, 0, none⟩) 1 (cTwin [(bk, bh, t0, t1)])) := Lib.hid (lit4_at (heap_alloc_new _ _))
                go_wp2_with (at_builtin
                             refine wpList_append_rd rfl (.tmp 95) (.tmp 97) _ rfl w.heap.size 76 _ 4 32 Try.underlying34 info_Twin rfl (by decide) (.slice Ao k co) k (cTwin (preT ks tag tp q s k)) rfl HOl.out _ _ 1 1 (cTwin [(bk, bh, t0, t1)]) rfl HLP.out (cTwin_one _) (by unfold maxLen; omega) (by omega) (by have := HBu.out.size; simp; omega) ?_
                             intro v6 w6 hown hgr hat
                             obtain ⟨A6, c6, hv6, ho6⟩ := Ow.of_own hown
                             subst hv6
                             have HO6 : Hid (w6.ownsRow w.heap.size 76 4 (.slice A6 (k + 1) c6) (k + 1) (cTwin (preT ks tag tp q s (k + 1)))) := Lib.hid (by rw [HOT.out, cTwin_app]; exact hown)
                             have HB6 : Hid (Below w.heap.size w w6) := Lib.hid (below_grown (HBu.out.alloc HBu.out.size _) hgr (fun g e => own_ge HOu.out e) (by have := HBu.out.size; simp; omega))
                             clear hown hgr hat ho6)
                go_roundw
                case rel => exact ⟨k + 1, A6, c6, (re + t0) % 113, by omega, by go_num, rfl, rfl, by omega, by omega, HRF, HO6, HB6⟩
                case measure => simp [intOf] <;> omega
            exact AllReadyH.nil
          exact AllReadyH.nil
        exact AllReadyH.nil
      exact AllReadyH.nil
    · obtain rfl : n = k := by omega
      obtain ⟨A9, c9, hv2, ho2⟩ := Ow.of_own HO.out
      injection hv2 with hv2 _ hv3
      subst hv2 hv3
      obtain ⟨g, cs, hAo, hg1, hg2, _, _⟩ := ho2.lt (by omega)
      subst hAo
      have HW := Lib.hid ho2
      obtain ⟨Q, hQ⟩ : ∃ Q, Hid (Q = 2 * q) := ⟨_, Lib.hid rfl⟩
      obtain ⟨b, t0, rfl, hbb, ht0, HT0⟩ := H2.out.intAt (show Q < 2 * n by have := hQ.out; omega)
      have tb0 := numsB_at5 HNU.out (k := Q) (by have := HL2.out; have := hQ.out; omega)
      rw [← HT0.out] at tb0
      obtain ⟨t00, t01⟩ := tb0
      have HTW := Lib.hid ht0
      have hbbw : (b.add Q).block < w.heap.size := by rw [add_block]; exact hbb
      have iw : IntKind.i64.wrap (2 * (q : Int)) = (Q : Int) := by
        have := hQ.out
        have e : (Q : Int) = 2 * (q : Int) := by omega
        rw [e]; exact IntWalk.i64_in _ (by omega)
      have i2 : (0 : Int) ≤ (Q : Int) := by omega
      have i3 : (Q : Int) < 2 * (n : Int) := by have := hQ.out; omega
      have i6 : (0 : Int) ≤ (q : Int) := by omega
      have i7 : (q : Int) < (n : Int) := by omega
      have hqn : q < n := by omega
      have hcb := lchal_bd ks msg tag (preT ks tag tp q s n)
      obtain ⟨cz, hcz⟩ : ∃ z, Hid (lchal ks msg tag (preT ks tag tp q s n) = z) := ⟨_, Lib.hid rfl⟩
      rw [hcz.out] at hcb
      obtain ⟨cz0, cz1⟩ := hcb
      obtain ⟨rs, hrs⟩ : ∃ z, Hid ((cz - re) % 113 = z) := ⟨_, Lib.hid rfl⟩
      have rs0 : 0 ≤ rs := by rw [← hrs.out]; omega
      have rs1 : rs ≤ 112 := by rw [← hrs.out]; omega
      obtain ⟨p0, hp0⟩ : ∃ v, Hid (powI 4 t0 227 = v) := ⟨_, Lib.hid rfl⟩
      obtain ⟨p1, hp1⟩ : ∃ v, Hid (powI 9 t0 227 = v) := ⟨_, Lib.hid rfl⟩
      obtain ⟨p3, hp3⟩ : ∃ v, Hid ((t0 + rs * s) % 113 = v) := ⟨_, Lib.hid rfl⟩
      have HMK := fun W => Lib.hid (s_makeT s t0 rs W s0 s1 t00 t01 rs0 rs1)
      simp only [hp0.out, hp1.out, hp3.out] at HMK
      have HBA := fun W => Lib.hid (s_linkBase W)
      have HSB : ∀ W, Hid (Calls Try.prog 39 #[.int .i64 cz, .int .i64 re] W fun e w' => e = .returned (.int .i64 rs) ∧ Below W.heap.size W w') := fun W => Lib.hid ((s_l1Sub cz re W cz0 cz1 re0 re1).mono fun e w' h => ⟨by rw [h.1, hrs.out], by rw [← h.2]; exact Below.refl _ _⟩)
      have HLK : ∀ W, Below w.heap.size w W → Ow W w.heap.size wr.heap.size 76 4 (some ⟨g, 0, none⟩) n co (cTwin (preT ks tag tp q s n)) → wr.heap.size ≤ W.heap.size → Calls Try.prog 58 #[.slice A1 n1 c1, .slice A n c, .int .i64 tag, .slice (some ⟨g, 0, none⟩) n co] W fun e w' => e = .returned (.int .i64 cz) ∧ Below W.heap.size W w' := fun W hb ho hz => by
        rw [← hcz.out]
        exact s_l16Link tag A1 n1 c1 msg A n c ks (some ⟨g, 0, none⟩) n co (preT ks tag tp q s n) W ((H.out.below hb).more hb.size) ((H1.out.below hb).more hb.size) (ho.rd.more hz) hn hn1 hn HMX.out.1
      have HFL : Hid (R_LinkSign_1 ks (q : Int) s msg tp = (preT ks tag tp q s n).set q (p0, p1, rs, p3)) := Lib.hid (by
        have hr := rest_oth (tp := tp) (i := q) (ch := cz) ⟨cz0, cz1⟩ n
        rw [HF.out.2.2, ← HMX.out.2, hcz.out, preT_set]
        unfold lmakeL lownT
        rw [HL.out, hr, ← HRE.out, hrs.out, ← hQ.out, ← HT0.out, hp0.out, hp1.out, hp3.out])
      have HF1 := Lib.hid HF.out.1
      have HF2 := Lib.hid HF.out.2.1
      have HLN : Hid (((preT ks tag tp q s n).set q (p0, p1, rs, p3)).length = n) := Lib.hid (by rw [List.length_set, preT_len])
      have HB := HBw
      have hzw := HBw.out.size
      clear ht0 HT0 hp0 hp1 hp3 HRE HF hQ hcz hrs HMX HO HBw ho2 hbb HTE
      go_upto_region 14 with (fail)
      refine wp_region_held_drew (S := fun w' => w'.cell? (b.add Q) = some (.int .i64 t0)) (by kernel_rfl) ((HB.out.cell (p := (b.add Q)) hbbw).trans HTW.out) (fun hHeld => ?_)
      obtain ⟨u0, hu0⟩ : ∃ u0, Hid (wr.drew = u0) := ⟨_, Lib.hid rfl⟩
      rw [hu0.out] at hHeld ⊢
      have zs0 : wr.heap.size = u0.heap.size := by rw [← hu0.out]; rfl
      replace zs0 := Nat.le_of_eq zs0
      have HBl0 : Hid (Below w.heap.size w u0) := Lib.hid (by rw [← hu0.out]; exact HB.out.drew)
      have HW0 : Hid (Ow u0 w.heap.size wr.heap.size 76 4 (some ⟨g, 0, none⟩) n co (cTwin (preT ks tag tp q s n))) := Lib.hid (by rw [← hu0.out]; exact HW.out)
      clear hu0
      refine wpAnyH_take (i := 0) (oi := { dst := some 100, op := Op.move (Operand.tmp 14), type := 34, pos := "l16_rings.go:84", after := #[], guard := none }) (v := ?_) rfl (by kernel_rfl) (by kernel_rfl) (by kernel_rfl) (fun _ _ _ h => h) (Or.inl ⟨by rfl, ?_⟩) hHeld ?_
      rotate_left
      · intro w hSw; (try dsimp only at hSw); go_simp; (try with_reducible rfl)
      try simp only [Act.put, List.setIfInBounds_toArray, List.set_cons_zero, List.set_cons_succ]
      refine wpAnyH_take (i := 1) (oi := { dst := some 101, op := Op.move (Operand.tmp 1), type := 3, pos := "l16_rings.go:84", after := #[], guard := none }) (v := ?_) rfl (by kernel_rfl) (by kernel_rfl) (by kernel_rfl) (fun _ _ _ h => h) (Or.inl ⟨by rfl, ?_⟩) hHeld ?_
      rotate_left
      · intro w hSw; (try dsimp only at hSw); go_simp; (try with_reducible rfl)
      try simp only [Act.put, List.setIfInBounds_toArray, List.set_cons_zero, List.set_cons_succ]
      refine wpAnyH_take (i := 3) (oi := { dst := some 103, op := Op.move (Operand.tmp 2), type := 3, pos := "l16_rings.go:84", after := #[], guard := none }) (v := ?_) rfl (by kernel_rfl) (by kernel_rfl) (by kernel_rfl) (fun _ _ _ h => h) (Or.inl ⟨by rfl, ?_⟩) hHeld ?_
      rotate_left
      · intro w hSw; (try dsimp only at hSw); go_simp; (try with_reducible rfl)
      try simp only [Act.put, List.setIfInBounds_toArray, List.set_cons_zero, List.set_cons_succ]
      refine wpAnyH_take (i := 4) (oi := { dst := some 104, op := Op.move (Operand.tmp 4), type := 22, pos := "l16_rings.go:84", after := #[], guard := none }) (v := ?_) rfl (by kernel_rfl) (by kernel_rfl) (by kernel_rfl) (fun _ _ _ h => h) (Or.inl ⟨by rfl, ?_⟩) hHeld ?_
      rotate_left
      · intro w hSw; (try dsimp only at hSw); go_simp; (try with_reducible rfl)
      try simp only [Act.put, List.setIfInBounds_toArray, List.set_cons_zero, List.set_cons_succ]
      refine wpAnyH_take (i := 5) (oi := { dst := some 105, op := Op.move (Operand.tmp 1), type := 3, pos := "l16_rings.go:84", after := #[], guard := none }) (v := ?_) rfl (by kernel_rfl) (by kernel_rfl) (by kernel_rfl) (fun _ _ _ h => h) (Or.inl ⟨by rfl, ?_⟩) hHeld ?_
      rotate_left
      · intro w hSw; (try dsimp only at hSw); go_simp; (try with_reducible rfl)
      try simp only [Act.put, List.setIfInBounds_toArray, List.set_cons_zero, List.set_cons_succ]
      refine wpAnyH_take (i := 6) (oi := { dst := some 106, op := Op.binOp BinOp.mul 3 (Operand.const (Value.int IntKind.i64 2)) (Operand.tmp 105) 3, type := 3, pos := "l16_rings.go:84", after := #[{ on := 5, ground := Ground.data }], guard := none }) (v := ?_) rfl (by kernel_rfl) (by kernel_rfl) (by kernel_rfl) (fun _ _ _ h => h) (Or.inl ⟨by rfl, ?_⟩) hHeld ?_
      rotate_left
      · intro w hSw; (try dsimp only at hSw); go_simp; (try with_reducible rfl)
      try simp only [Act.put, List.setIfInBounds_toArray, List.set_cons_zero, List.set_cons_succ]
      refine wpAnyH_take (i := 7) (oi := { dst := some 107, op := Op.indexAddr 22 (Operand.tmp 104) (Operand.tmp 106), type := 0, pos := "l16_rings.go:84", after := #[{ on := 4, ground := Ground.data }, { on := 6, ground := Ground.data }], guard := none }) (v := ?_) rfl (by kernel_rfl) (by kernel_rfl) (by kernel_rfl) (fun _ _ _ h => h) (Or.inl ⟨by rfl, ?_⟩) hHeld ?_
      rotate_left
      · intro w hSw; (try dsimp only at hSw); go_simp; (try with_reducible rfl)
      try simp only [Act.put, List.setIfInBounds_toArray, List.set_cons_zero, List.set_cons_succ]
      refine wpAnyH_take (i := 8) (oi := { dst := some 108, op := Op.load 3 (Operand.tmp 107), type := 3, pos := "l16_rings.go:84", after := #[{ on := 7, ground := Ground.data }], guard := none }) (v := ?_) rfl (by kernel_rfl) (by kernel_rfl) (by kernel_rfl) (fun _ _ _ h => h) (Or.inl ⟨by rfl, ?_⟩) hHeld ?_
      rotate_left
      · intro w hSw; (try dsimp only at hSw); go_simp; (try with_reducible rfl)
      try simp only [Act.put, List.setIfInBounds_toArray, List.set_cons_zero, List.set_cons_succ]
      refine wpAnyH_take (i := 9) (oi := { dst := some 109, op := Op.move (Operand.tmp 3), type := 22, pos := "l16_rings.go:84", after := #[], guard := none }) (v := ?_) rfl (by kernel_rfl) (by kernel_rfl) (by kernel_rfl) (fun _ _ _ h => h) (Or.inl ⟨by rfl, ?_⟩) hHeld ?_
      rotate_left
      · intro w hSw; (try dsimp only at hSw); go_simp; (try with_reducible rfl)
      try simp only [Act.put, List.setIfInBounds_toArray, List.set_cons_zero, List.set_cons_succ]
      refine wpAnyH_take (i := 10) (oi := { dst := some 110, op := Op.move (Operand.tmp 0), type := 22, pos := "l16_rings.go:84", after := #[], guard := none }) (v := ?_) rfl (by kernel_rfl) (by kernel_rfl) (by kernel_rfl) (fun _ _ _ h => h) (Or.inl ⟨by rfl, ?_⟩) hHeld ?_
      rotate_left
      · intro w hSw; (try dsimp only at hSw); go_simp; (try with_reducible rfl)
      try simp only [Act.put, List.setIfInBounds_toArray, List.set_cons_zero, List.set_cons_succ]
      refine wpAnyH_take (i := 11) (oi := { dst := some 111, op := Op.move (Operand.tmp 13), type := 3, pos := "l16_rings.go:84", after := #[], guard := none }) (v := ?_) rfl (by kernel_rfl) (by kernel_rfl) (by kernel_rfl) (fun _ _ _ h => h) (Or.inl ⟨by rfl, ?_⟩) hHeld ?_
      rotate_left
      · intro w hSw; (try dsimp only at hSw); go_simp; (try with_reducible rfl)
      try simp only [Act.put, List.setIfInBounds_toArray, List.set_cons_zero, List.set_cons_succ]
      refine wpAnyH_take (i := 12) (oi := { dst := some 112, op := Op.move (Operand.tmp 14), type := 34, pos := "l16_rings.go:84", after := #[], guard := none }) (v := ?_) rfl (by kernel_rfl) (by kernel_rfl) (by kernel_rfl) (fun _ _ _ h => h) (Or.inl ⟨by rfl, ?_⟩) hHeld ?_
      rotate_left
      · intro w hSw; (try dsimp only at hSw); go_simp; (try with_reducible rfl)
      try simp only [Act.put, List.setIfInBounds_toArray, List.set_cons_zero, List.set_cons_succ]
      refine wpAnyH_take (i := 14) (oi := { dst := some 114, op := Op.move (Operand.tmp 15), type := 3, pos := "l16_rings.go:84", after := #[], guard := none }) (v := ?_) rfl (by kernel_rfl) (by kernel_rfl) (by kernel_rfl) (fun _ _ _ h => h) (Or.inl ⟨by rfl, ?_⟩) hHeld ?_
      rotate_left
      · intro w hSw; (try dsimp only at hSw); go_simp; (try with_reducible rfl)
      try simp only [Act.put, List.setIfInBounds_toArray, List.set_cons_zero, List.set_cons_succ]
      refine wpAnyH_ready (rs := [2]) (by kernel_rfl) (by simp) ?_
      refine AllReadyH.cons (o := { dst := some 102, op := Op.call { callee := Callee.value (Operand.func 56), args := #[], argTypes := #[] }, type := 80, pos := "l16_rings.go:84", after := #[], guard := none }) rfl (fun K hK => ?_) ?_
      · go_simp
        refine ((HBA u0).out).mono ?_
        rintro e u1 ⟨rfl, hb_⟩
        have zs1 : u0.heap.size ≤ u1.heap.size := hb_.size
        have HBl1 : Hid (Below w.heap.size w u1) := Lib.hid (HBl0.out.trans (hb_.mono HBl0.out.size))
        have HW1 : Hid (Ow u1 w.heap.size wr.heap.size 76 4 (some ⟨g, 0, none⟩) n co (cTwin (preT ks tag tp q s n))) := Lib.hid (HW0.out.below hb_ (by omega))
        clear hHeld hb_ HBl0 HW0
        (try dsimp only)
        (try go_wp2_with fail)
        refine hK.out _ _ (((HBl1.out.cell (p := (b.add Q)) hbbw).trans HTW.out)) (fun hHeld => ?_)
        clear hK K
        try simp only [Act.put, List.setIfInBounds_toArray, List.set_cons_zero, List.set_cons_succ]
        refine wpAnyH_ready (rs := [13]) (by kernel_rfl) (by simp) ?_
        refine AllReadyH.cons (o := { dst := some 113, op := Op.call { callee := Callee.value (Operand.func 58), args := #[Operand.tmp 109, Operand.tmp 110, Operand.tmp 111, Operand.tmp 112], argTypes := #[22, 22, 3, 34] }, type := 3, pos := "l16_rings.go:84", after := #[{ on := 9, ground := Ground.data }, { on := 10, ground := Ground.data }, { on := 11, ground := Ground.data }, { on := 12, ground := Ground.data }, { on := 2, ground := Ground.chain }], guard := none }) rfl (fun K hK => ?_) ?_
        · go_simp
          refine ((HLK u1 HBl1.out HW1.out (by omega))).mono ?_
          rintro e u2 ⟨rfl, hb_⟩
          have zs2 : u1.heap.size ≤ u2.heap.size := hb_.size
          have HBl2 : Hid (Below w.heap.size w u2) := Lib.hid (HBl1.out.trans (hb_.mono HBl1.out.size))
          have HW2 : Hid (Ow u2 w.heap.size wr.heap.size 76 4 (some ⟨g, 0, none⟩) n co (cTwin (preT ks tag tp q s n))) := Lib.hid (HW1.out.below hb_ (by omega))
          clear hHeld hb_ HBl1 HW1
          (try dsimp only)
          (try go_wp2_with fail)
          refine hK.out _ _ (((HBl2.out.cell (p := (b.add Q)) hbbw).trans HTW.out)) (fun hHeld => ?_)
          clear hK K
          try simp only [Act.put, List.setIfInBounds_toArray, List.set_cons_zero, List.set_cons_succ]
          refine wpAnyH_ready (rs := [15]) (by kernel_rfl) (by simp) ?_
          refine AllReadyH.cons (o := { dst := some 115, op := Op.call { callee := Callee.value (Operand.func 39), args := #[Operand.tmp 113, Operand.tmp 114], argTypes := #[3, 3] }, type := 3, pos := "l16_rings.go:84", after := #[{ on := 13, ground := Ground.data }, { on := 14, ground := Ground.data }, { on := 13, ground := Ground.chain }], guard := none }) rfl (fun K hK => ?_) ?_
          · go_simp
            refine ((HSB u2).out).mono ?_
            rintro e u3 ⟨rfl, hb_⟩
            have zs3 : u2.heap.size ≤ u3.heap.size := hb_.size
            have HBl3 : Hid (Below w.heap.size w u3) := Lib.hid (HBl2.out.trans (hb_.mono HBl2.out.size))
            have HW3 : Hid (Ow u3 w.heap.size wr.heap.size 76 4 (some ⟨g, 0, none⟩) n co (cTwin (preT ks tag tp q s n))) := Lib.hid (HW2.out.below hb_ (by omega))
            clear hHeld hb_ HBl2 HW2
            (try dsimp only)
            (try go_wp2_with fail)
            refine hK.out _ _ (((HBl3.out.cell (p := (b.add Q)) hbbw).trans HTW.out)) (fun hHeld => ?_)
            clear hK K
            try simp only [Act.put, List.setIfInBounds_toArray, List.set_cons_zero, List.set_cons_succ]
            refine wpAnyH_ready (rs := [16]) (by kernel_rfl) (by simp) ?_
            refine AllReadyH.cons (o := { dst := some 116, op := Op.call { callee := Callee.value (Operand.func 57), args := #[Operand.tmp 102, Operand.tmp 103, Operand.tmp 108, Operand.tmp 115], argTypes := #[80, 3, 3, 3] }, type := 77, pos := "l16_rings.go:84", after := #[{ on := 2, ground := Ground.data }, { on := 3, ground := Ground.data }, { on := 8, ground := Ground.data }, { on := 15, ground := Ground.data }, { on := 15, ground := Ground.chain }], guard := none }) rfl (fun K hK => ?_) ?_
            · go_simp
              refine ((HMK u3).out).mono ?_
              rintro e u4 ⟨rfl, hb_⟩
              have zs4 : u3.heap.size ≤ u4.heap.size := hb_.size
              have HBl4 : Hid (Below w.heap.size w u4) := Lib.hid (HBl3.out.trans (hb_.mono HBl3.out.size))
              have HW4 : Hid (Ow u4 w.heap.size wr.heap.size 76 4 (some ⟨g, 0, none⟩) n co (cTwin (preT ks tag tp q s n))) := Lib.hid (HW3.out.below hb_ (by omega))
              clear hHeld hb_ HBl3 HW3
              (try dsimp only)
              (try go_wp2_with fail)
              refine hK.out _ _ (((HBl4.out.cell (p := (b.add Q)) hbbw).trans HTW.out)) (fun hHeld => ?_)
              clear hK K
              try simp only [Act.put, List.setIfInBounds_toArray, List.set_cons_zero, List.set_cons_succ]
              refine wpAnyH_take (i := 17) (oi := { dst := some 99, op := Op.move (Operand.tmp 116), type := 77, pos := "l16_rings.go:84", after := #[{ on := 16, ground := Ground.data }], guard := none }) (v := ?_) rfl (by kernel_rfl) (by kernel_rfl) (by kernel_rfl) (fun _ _ _ h => h) (Or.inl ⟨by rfl, ?_⟩) hHeld ?_
              rotate_left
              · intro w hSw; (try dsimp only at hSw); go_simp; (try with_reducible rfl)
              try simp only [Act.put, List.setIfInBounds_toArray, List.set_cons_zero, List.set_cons_succ]
              refine wpAnyH_take (i := 18) (oi := { dst := some 117, op := Op.extract (Operand.tmp 99) 0, type := 76, pos := "l16_rings.go:84", after := #[{ on := 17, ground := Ground.data }], guard := none }) (v := ?_) rfl (by kernel_rfl) (by kernel_rfl) (by kernel_rfl) (fun _ _ _ h => h) (Or.inl ⟨by rfl, ?_⟩) hHeld ?_
              rotate_left
              · intro w hSw; (try dsimp only at hSw); go_simp; (try with_reducible rfl)
              try simp only [Act.put, List.setIfInBounds_toArray, List.set_cons_zero, List.set_cons_succ]
              refine wpAnyH_take (i := 19) (oi := { dst := some 118, op := Op.extract (Operand.tmp 99) 1, type := 4, pos := "l16_rings.go:84", after := #[{ on := 17, ground := Ground.data }, { on := 21, ground := Ground.gcOnly Departure.lateStores }], guard := none }) (v := ?_) rfl (by kernel_rfl) (by kernel_rfl) (by kernel_rfl) (fun _ _ _ h => h) (Or.inl ⟨by rfl, ?_⟩) hHeld ?_
              rotate_left
              · intro w hSw; (try dsimp only at hSw); go_simp; (try with_reducible rfl)
              try simp only [Act.put, List.setIfInBounds_toArray, List.set_cons_zero, List.set_cons_succ]
              refine wpAnyH_take (i := 20) (oi := { dst := some 119, op := Op.indexAddr 34 (Operand.tmp 100) (Operand.tmp 101), type := 0, pos := "l16_rings.go:84", after := #[{ on := 0, ground := Ground.data }, { on := 1, ground := Ground.data }, { on := 0, ground := Ground.phase }, { on := 1, ground := Ground.phase }, { on := 2, ground := Ground.phase }, { on := 3, ground := Ground.phase }, { on := 4, ground := Ground.phase }, { on := 5, ground := Ground.phase }, { on := 6, ground := Ground.phase }, { on := 7, ground := Ground.phase }, { on := 8, ground := Ground.phase }, { on := 9, ground := Ground.phase }, { on := 10, ground := Ground.phase }, { on := 11, ground := Ground.phase }, { on := 12, ground := Ground.phase }, { on := 13, ground := Ground.phase }, { on := 14, ground := Ground.phase }, { on := 15, ground := Ground.phase }, { on := 16, ground := Ground.phase }, { on := 17, ground := Ground.phase }, { on := 18, ground := Ground.phase }, { on := 19, ground := Ground.textOnly Departure.lateStores }], guard := none }) (v := ?_) rfl (by kernel_rfl) (by kernel_rfl) (by kernel_rfl) (fun _ _ _ h => h) (Or.inl ⟨by rfl, ?_⟩) hHeld ?_
              rotate_left
              · intro w hSw; (try dsimp only at hSw); go_simp; (try with_reducible rfl)
              try simp only [Act.put, List.setIfInBounds_toArray, List.set_cons_zero, List.set_cons_succ]
              refine wpAnyH_ready (rs := [21]) (by kernel_rfl) (by simp) ?_
              refine AllReadyH.cons (o := { dst := none, op := Op.store 76 (Operand.tmp 119) (Operand.tmp 117), type := 0, pos := "l16_rings.go:84", after := #[{ on := 20, ground := Ground.data }, { on := 18, ground := Ground.data }, { on := 16, ground := Ground.chain }, { on := 0, ground := Ground.phase }, { on := 1, ground := Ground.phase }, { on := 2, ground := Ground.phase }, { on := 3, ground := Ground.phase }, { on := 4, ground := Ground.phase }, { on := 5, ground := Ground.phase }, { on := 6, ground := Ground.phase }, { on := 7, ground := Ground.phase }, { on := 8, ground := Ground.phase }, { on := 9, ground := Ground.phase }, { on := 10, ground := Ground.phase }, { on := 11, ground := Ground.phase }, { on := 12, ground := Ground.phase }, { on := 13, ground := Ground.phase }, { on := 14, ground := Ground.phase }, { on := 15, ground := Ground.phase }, { on := 16, ground := Ground.phase }, { on := 17, ground := Ground.phase }, { on := 18, ground := Ground.phase }, { on := 19, ground := Ground.textOnly Departure.lateStores }], guard := none }) rfl (fun K hK => ?_) ?_
              · obtain ⟨⟨xv0, xc0⟩, ⟨xv1, xc1⟩, ⟨xv2, xc2⟩, ⟨xv3, xc3⟩, xff⟩ := ow_row4 HW4.out (hqn)
                have xf0 := xff (q * 4)
                have xf1 := xff (q * 4 + 1)
                have xf2 := xff (q * 4 + 2)
                have xf3 := xff (q * 4 + 3)
                go_simp
                obtain ⟨u5, hw5⟩ : ∃ W, Hid (((((u4.setCell ⟨g, q * 4, none⟩ (.int .i64 p0)).setCell ⟨g, q * 4 + 1, none⟩ (.int .i64 p1)).setCell ⟨g, q * 4 + 2, none⟩ (.int .i64 rs)).setCell ⟨g, q * 4 + 3, none⟩ (.int .i64 p3)) = W) := ⟨_, Lib.hid rfl⟩
                rw [hw5.out]
                have hk5 : Kept (g) (g + 1) u4 u5 := by rw [← hw5.out]; exact ((((Kept.refl _ _ _).setCell (p := ⟨g, q * 4, none⟩) (Nat.le_refl _) (Nat.lt_succ_self _) _).setCell (p := ⟨g, q * 4 + 1, none⟩) (Nat.le_refl _) (Nat.lt_succ_self _) _).setCell (p := ⟨g, q * 4 + 2, none⟩) (Nat.le_refl _) (Nat.lt_succ_self _) _).setCell (p := ⟨g, q * 4 + 3, none⟩) (Nat.le_refl _) (Nat.lt_succ_self _) _
                have zs5 : u4.heap.size ≤ u5.heap.size := hk5.size
                have HBl5 : Hid (Below w.heap.size w u5) := Lib.hid (by rw [← hw5.out]; exact ((((HBl4.out).setCell (p := ⟨g, q * 4, none⟩) (by simp only; omega) _).setCell (p := ⟨g, q * 4 + 1, none⟩) (by simp only; omega) _).setCell (p := ⟨g, q * 4 + 2, none⟩) (by simp only; omega) _).setCell (p := ⟨g, q * 4 + 3, none⟩) (by simp only; omega) _)
                have HW5 : Hid (Ow u5 w.heap.size wr.heap.size 76 4 (some ⟨g, 0, none⟩) n co (cTwin ((preT ks tag tp q s n).set q (p0, p1, rs, p3)))) := Lib.hid (by rw [← hw5.out]; exact HW4.out.setTwin (k := q) p0 p1 rs p3)
                clear hHeld hw5 hk5 xff xc0 xf0 xc1 xf1 xc2 xf2 xc3 xf3 HBl4 HW4
                refine hK.out _ _ (((HBl5.out.cell (p := (b.add Q)) hbbw).trans HTW.out)) (fun hHeld => ?_)
                clear hK K
                try simp only [Act.put]
                refine wpAnyH_done (by kernel_rfl) ?_ _
                have HO8 : Hid (OwTwinS u5 w.heap.size u5.heap.size (.slice (some ⟨g, 0, none⟩) n co) (R_LinkSign_1 ks (q : Int) s msg tp)) := Lib.hid (by rw [HFL.out]; exact ⟨by rw [HLN.out]; omega, _, _, _, rfl, HW5.out.widen (Nat.le_refl _) (by omega)⟩)
                clear HW5
                go_wp2
                go_ret3
                exact ⟨_, by rw [HF1.out, HF2.out]; rfl, HO8.out, HBl5.out⟩
              exact AllReadyH.nil
            exact AllReadyH.nil
          exact AllReadyH.nil
        exact AllReadyH.nil
      exact AllReadyH.nil
end Go.Proofs.Ytdhakbpimbadgaa

/- Arguments that are lists of structs of ints, opened. Made by tools/openflat.py. -/
namespace Go.Proofs.Ytdhakbpimbadgaa
open Go.ChangeShapes Go.WideShapes Go.ChangeAt Go.RowKit
set_option maxRecDepth 100000

section
variable {H : Type} {enc : TypeId × Value → H} {P : Program} {w : World}
theorem row_lt3 {a : Addr} {K : Nat} {u : Value} (h : w.cell? (a.add K) = some u) : a.block < w.heap.size := by
  have := World.block_lt_of_cell? (a := a.add K) _ h
  rw [add_block] at this; exact this
theorem open_ProofS {b0 : Nat} {t e : TypeId} {r : Reach} {v : Value} {d : DataW H} {ps : List MemPlace} {f0 f1 f2 : Field} (ht : P.underlying t = some (.slice e)) (he : P.underlying e = some (.struct #[f0, f1, f2])) (ce : P.cellsOf e = 3)
    (o0 : f0.offset = 0) (o1 : f1.offset = 1) (o2 : f2.offset = 2) (c0 : P.cellsOf f0.type = 1) (c1 : P.cellsOf f1.type = 1) (c2 : P.cellsOf f2.type = 1) (t0 : P.underlying f0.type = some (.int .i64)) (t1 : P.underlying f1.type = some (.int .i64)) (t2 : P.underlying f2.type = some (.int .i64))
    (hv : Value.okWide P w r b0 t v) (h : DataW.Trod enc P w 0 (fun _ => true) true t v d ps) :
    ∃ A n c zs, v = .slice A n c ∧ n ≤ 9223372036854775807 ∧ Rd w w.heap.size 3 A n (cProof zs) := by
  obtain ⟨A, n, c, rfl⟩ : ∃ A n c, v = .slice A n c := by
    cases v <;> simp [Value.okWide, ht, Cell.okWide, Cell.ok] at hv
    exact ⟨_, _, _, rfl⟩
  obtain ⟨fuel, hf⟩ := h
  rcases Go.Deep.open_slice ht hf with ⟨hn, _⟩ | ⟨a, len, cap, m, n', D, Pl, hs, _, hl, hm, hmm, _, hx⟩
  · simp [Value.cells] at hn
    obtain ⟨rfl, rfl, rfl⟩ := hn
    exact ⟨_, _, _, [], rfl, by omega, by simp [cProof], fun h => by omega⟩
  · simp [Value.cells] at hs
    obtain ⟨rfl, rfl, rfl⟩ := hs
    simp only [if_true] at hmm
    unfold maxLen at hm
    have each : ∀ i, i < n → ∃ z : Int × Int × Int, w.cell? (a.add (i * 3)) = some (.int .i64 z.1) ∧ w.cell? (a.add (i * 3 + 1)) = some (.int .i64 z.2.1) ∧ w.cell? (a.add (i * 3 + 2)) = some (.int .i64 z.2.2) := by
      intro i hi
      obtain ⟨cs', h1, h2⟩ := hx i (by omega)
      rw [ce] at h1
      obtain ⟨_, hlen, hcell⟩ := World.cells?_some h1
      obtain ⟨xs, k, hk, _, _, hxl, hf2⟩ := DataW.trod_struct he h2
      have one : ∀ j, j < 3 → ∃ u, (cs'.drop j).take 1 = [u] ∧ w.cell? (a.add (i * 3 + j)) = some u := by
        intro j hj
        have hjl : j < cs'.length := by omega
        refine ⟨cs'[j], ?_, ?_⟩
        · rw [List.drop_eq_getElem_cons hjl, List.take_succ_cons, List.take_zero]
        · have e4 := hcell j hj
          rw [Go.Deep.add_add] at e4
          rw [e4, List.getElem?_eq_getElem hjl]
      obtain ⟨u0, s0, q0⟩ := one 0 (by omega)
      obtain ⟨u1, s1, q1⟩ := one 1 (by omega)
      obtain ⟨u2, s2, q2⟩ := one 2 (by omega)
      have hx3 : xs.length = 3 := by simpa using hxl
      have g0 := hf2 0 f0 rfl
      rw [o0, c0, s0, List.getElem?_eq_getElem (by omega)] at g0
      obtain ⟨y0, e0, _⟩ := DataW.trod_int t0 g0
      have g1 := hf2 1 f1 rfl
      rw [o1, c1, s1, List.getElem?_eq_getElem (by omega)] at g1
      obtain ⟨y1, e1, _⟩ := DataW.trod_int t1 g1
      have g2 := hf2 2 f2 rfl
      rw [o2, c2, s2, List.getElem?_eq_getElem (by omega)] at g2
      obtain ⟨y2, e2, _⟩ := DataW.trod_int t2 g2
      injection e0 with e0
      injection e1 with e1
      injection e2 with e2
      subst e0 e1 e2
      exact ⟨(y0, y1, y2), q0, q1, q2⟩
    obtain ⟨Z, hZ⟩ := Go.Deep.choose_lt each
    refine ⟨_, _, _, (List.range n).map Z, rfl, by omega, by rw [cProof_length]; simp, fun h0 => ⟨a, rfl, row_lt3 (hZ 0 h0).1, fun j u hu => ?_⟩⟩
    have hj : j < n * 3 := by
      have := (List.getElem?_eq_some_iff.1 hu).1
      rw [cProof_length] at this; simpa using this
    obtain ⟨k, hkd⟩ : ∃ k, j / 3 = k := ⟨_, rfl⟩
    have h2 : j = k * 3 ∨ j = k * 3 + 1 ∨ j = k * 3 + 2 := by omega
    have hk : k < n := by omega
    have hkl : k < ((List.range n).map Z).length := by simpa using hk
    have gd : ((List.range n).map Z).getD k (0, 0, 0) = Z k := by simp [hk]
    obtain ⟨z0, z1, z2⟩ := hZ k hk
    clear hkd
    rcases h2 with rfl | rfl | rfl
    · rw [cProof_get0 _ _ hkl, gd] at hu; rw [z0, ← hu]
    · rw [cProof_get1 _ _ hkl, gd] at hu; rw [z1, ← hu]
    · rw [cProof_get2 _ _ hkl, gd] at hu; rw [z2, ← hu]
theorem open_TwinS {b0 : Nat} {t e : TypeId} {r : Reach} {v : Value} {d : DataW H} {ps : List MemPlace} {f0 f1 f2 f3 : Field} (ht : P.underlying t = some (.slice e)) (he : P.underlying e = some (.struct #[f0, f1, f2, f3])) (ce : P.cellsOf e = 4)
    (o0 : f0.offset = 0) (o1 : f1.offset = 1) (o2 : f2.offset = 2) (o3 : f3.offset = 3) (c0 : P.cellsOf f0.type = 1) (c1 : P.cellsOf f1.type = 1) (c2 : P.cellsOf f2.type = 1) (c3 : P.cellsOf f3.type = 1) (t0 : P.underlying f0.type = some (.int .i64)) (t1 : P.underlying f1.type = some (.int .i64)) (t2 : P.underlying f2.type = some (.int .i64)) (t3 : P.underlying f3.type = some (.int .i64))
    (hv : Value.okWide P w r b0 t v) (h : DataW.Trod enc P w 0 (fun _ => true) true t v d ps) :
    ∃ A n c zs, v = .slice A n c ∧ n ≤ 9223372036854775807 ∧ Rd w w.heap.size 4 A n (cTwin zs) := by
  obtain ⟨A, n, c, rfl⟩ : ∃ A n c, v = .slice A n c := by
    cases v <;> simp [Value.okWide, ht, Cell.okWide, Cell.ok] at hv
    exact ⟨_, _, _, rfl⟩
  obtain ⟨fuel, hf⟩ := h
  rcases Go.Deep.open_slice ht hf with ⟨hn, _⟩ | ⟨a, len, cap, m, n', D, Pl, hs, _, hl, hm, hmm, _, hx⟩
  · simp [Value.cells] at hn
    obtain ⟨rfl, rfl, rfl⟩ := hn
    exact ⟨_, _, _, [], rfl, by omega, by simp [cTwin], fun h => by omega⟩
  · simp [Value.cells] at hs
    obtain ⟨rfl, rfl, rfl⟩ := hs
    simp only [if_true] at hmm
    unfold maxLen at hm
    have each : ∀ i, i < n → ∃ z : Int × Int × Int × Int, w.cell? (a.add (i * 4)) = some (.int .i64 z.1) ∧ w.cell? (a.add (i * 4 + 1)) = some (.int .i64 z.2.1) ∧ w.cell? (a.add (i * 4 + 2)) = some (.int .i64 z.2.2.1) ∧ w.cell? (a.add (i * 4 + 3)) = some (.int .i64 z.2.2.2) := by
      intro i hi
      obtain ⟨cs', h1, h2⟩ := hx i (by omega)
      rw [ce] at h1
      obtain ⟨_, hlen, hcell⟩ := World.cells?_some h1
      obtain ⟨xs, k, hk, _, _, hxl, hf2⟩ := DataW.trod_struct he h2
      have one : ∀ j, j < 4 → ∃ u, (cs'.drop j).take 1 = [u] ∧ w.cell? (a.add (i * 4 + j)) = some u := by
        intro j hj
        have hjl : j < cs'.length := by omega
        refine ⟨cs'[j], ?_, ?_⟩
        · rw [List.drop_eq_getElem_cons hjl, List.take_succ_cons, List.take_zero]
        · have e4 := hcell j hj
          rw [Go.Deep.add_add] at e4
          rw [e4, List.getElem?_eq_getElem hjl]
      obtain ⟨u0, s0, q0⟩ := one 0 (by omega)
      obtain ⟨u1, s1, q1⟩ := one 1 (by omega)
      obtain ⟨u2, s2, q2⟩ := one 2 (by omega)
      obtain ⟨u3, s3, q3⟩ := one 3 (by omega)
      have hx3 : xs.length = 4 := by simpa using hxl
      have g0 := hf2 0 f0 rfl
      rw [o0, c0, s0, List.getElem?_eq_getElem (by omega)] at g0
      obtain ⟨y0, e0, _⟩ := DataW.trod_int t0 g0
      have g1 := hf2 1 f1 rfl
      rw [o1, c1, s1, List.getElem?_eq_getElem (by omega)] at g1
      obtain ⟨y1, e1, _⟩ := DataW.trod_int t1 g1
      have g2 := hf2 2 f2 rfl
      rw [o2, c2, s2, List.getElem?_eq_getElem (by omega)] at g2
      obtain ⟨y2, e2, _⟩ := DataW.trod_int t2 g2
      have g3 := hf2 3 f3 rfl
      rw [o3, c3, s3, List.getElem?_eq_getElem (by omega)] at g3
      obtain ⟨y3, e3, _⟩ := DataW.trod_int t3 g3
      injection e0 with e0
      injection e1 with e1
      injection e2 with e2
      injection e3 with e3
      subst e0 e1 e2 e3
      exact ⟨(y0, y1, y2, y3), q0, q1, q2, q3⟩
    obtain ⟨Z, hZ⟩ := Go.Deep.choose_lt each
    refine ⟨_, _, _, (List.range n).map Z, rfl, by omega, by rw [cTwin_length]; simp, fun h0 => ⟨a, rfl, row_lt3 (hZ 0 h0).1, fun j u hu => ?_⟩⟩
    have hj : j < n * 4 := by
      have := (List.getElem?_eq_some_iff.1 hu).1
      rw [cTwin_length] at this; simpa using this
    obtain ⟨k, hkd⟩ : ∃ k, j / 4 = k := ⟨_, rfl⟩
    have h2 : j = k * 4 ∨ j = k * 4 + 1 ∨ j = k * 4 + 2 ∨ j = k * 4 + 3 := by omega
    have hk : k < n := by omega
    have hkl : k < ((List.range n).map Z).length := by simpa using hk
    have gd : ((List.range n).map Z).getD k (0, 0, 0, 0) = Z k := by simp [hk]
    obtain ⟨z0, z1, z2, z3⟩ := hZ k hk
    clear hkd
    rcases h2 with rfl | rfl | rfl | rfl
    · rw [cTwin_get0 _ _ hkl, gd] at hu; rw [z0, ← hu]
    · rw [cTwin_get1 _ _ hkl, gd] at hu; rw [z1, ← hu]
    · rw [cTwin_get2 _ _ hkl, gd] at hu; rw [z2, ← hu]
    · rw [cTwin_get3 _ _ hkl, gd] at hu; rw [z3, ← hu]
end
end Go.Proofs.Ytdhakbpimbadgaa

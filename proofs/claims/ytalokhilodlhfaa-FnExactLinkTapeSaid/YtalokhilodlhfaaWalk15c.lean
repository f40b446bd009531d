/- Chapter 15: EitherGood, EitherSecret of both sides. Made by tools/gen15/c.py. -/
import Derived.Test.YtalokhilodlhfaaWalk15b
namespace Go.Proofs.Ytalokhilodlhfaa
open Go.RowKit
set_option maxRecDepth 100000

theorem eg_ProofGood (args : Array Value) (W : World) : (callFunc 68 args).run Try.prog W = .ok (.enter 68 args) W := by kernel_rfl
theorem chals_of {ks : List Int} {l : List Pf} {n : Nat} (h : goodsK ks l n = true) : ∀ k, k < n → 0 ≤ (l.getD k (0, 0, 0)).2.1 ∧ (l.getD k (0, 0, 0)).2.1 ≤ 112 := fun _ hk => (pfGood_nums (goodsK_at h hk)).2.1
theorem goodsB_len {ks : List Int} {l : List Pf} (h : goodsB ks l = true) : l.length = ks.length ∧ goodsK ks l ks.length = true := by
  unfold goodsB at h; simpa using h
set_option maxHeartbeats 2000000 in
theorem i_goods (A : Option Addr) (n c : Nat) (zs : List Int) (A' : Option Addr) (n' c' : Nat) (l : List Pf) (w : World) (h : Rd w w.heap.size 1 A n (cI zs)) (h' : Rd w w.heap.size 3 A' n' (cProof l)) (hn : n ≤ 1048576) (hn' : n' ≤ 1048576) :
    Calls Try.prog 67 #[.slice A n c, .slice A' n' c', .func (.func 68) #[] #[]] w fun e w' => e = .returned (.bool (goodsB zs l)) ∧ Below w.heap.size w w' := by
  have h0 := i_eachGood_Proof 68 #[] pfGood A n c zs A' n' c' l w h h' hn hn' eg_ProofGood (fun q x y z W _ => X_i_ProofGood q x y z W)
  rw [gK_pf] at h0
  exact h0

set_option maxHeartbeats 4000000 in
theorem X_s_EitherGood (v v1 : Value) (ks : List Int) (ch : Int) (l : List Pf) (w : World) (h : RdIntS w w.heap.size v ks) (h1 : RdProofS w w.heap.size v1 l) (hs : szIntS ks ≤ 1048576) (hs1 : szProofS l ≤ 1048576) :
    Calls Try.prog 23 #[v, .int .i64 ch, v1] w fun e w' => e = .returned (.bool (egoodB ks ch l)) ∧ Below w.heap.size w w' := by
  obtain ⟨A, n, c, rfl, _, h⟩ := h
  obtain ⟨A1, n1, c1, rfl, _, h1⟩ := h1
  have HL := Lib.hid h.len
  have HL1 := Lib.hid h1.Prooflen
  have hn : n ≤ 1048576 := by have := HL.out; unfold szIntS at hs; omega
  have hn1 : n1 ≤ 1048576 := by have := HL1.out; unfold szProofS at hs1; omega
  have H := Lib.hid h
  have H1 := Lib.hid h1
  clear h h1 hs hs1
  go_enter Try.func23, Try.ntmps23
  go_wp2_with fail
  refine (s_l15Keys _ _ _ _ _ H.out hn).mono ?_
  rintro e w' ⟨rfl, rfl⟩
  cases hk : keysB ks
  · have HF : Hid (false = egoodB ks ch l) := Lib.hid (by unfold egoodB; rw [hk]; rfl)
    go_wp2
    go_ret
    exact ⟨ret_bool HF.out, Below.refl _ _⟩
  go_wp2_with fail
  refine (s_NumOk _ _).mono ?_
  rintro e w' ⟨rfl, rfl⟩
  cases hc : numB ch
  · have HF : Hid (false = egoodB ks ch l) := Lib.hid (by unfold egoodB; rw [hk, hc]; rfl)
    go_wp2
    go_ret
    exact ⟨ret_bool HF.out, Below.refl _ _⟩
  by_cases hnn : n1 = n
  rotate_left
  · have e1 : ((n1 : Int) != (n : Int)) = true := by rw [bne_iff_ne]; omega
    have e2 : ¬ (n1 : Int) = (n : Int) := by omega
    have HF : Hid (false = egoodB ks ch l) := Lib.hid (by unfold egoodB; unfold goodsB; rw [HL.out, HL1.out]; simp [hnn])
    go_wp2
    go_ret
    exact ⟨ret_bool HF.out, Below.refl _ _⟩
  subst hnn
  have HC : Hid (egoodB ks ch l = (goodsK ks l n1 && decide (chalK l n1 = ch))) := Lib.hid (by unfold egoodB goodsB; rw [hk, hc, HL.out, HL1.out]; simp)
  clear hk hc
  go_wp2
  go_loopw [7] (fun i wr => ∃ k : Nat, k ≤ n1 ∧ i = .int .i64 k ∧ Hid (goodsK ks l k = true) ∧ Hid (Below w.heap.size w wr)) (fun i _ => n1 - (intOf i).toNat)
  case atStart => exact ⟨0, Nat.zero_le _, rfl, Lib.hid rfl, Lib.hid (Below.refl _ _)⟩
  case round =>
    obtain ⟨k, hk, rfl, HK, HB⟩ := hrel
    by_cases hlt : k < n1
    · obtain ⟨b, q, rfl, hbb, hcq, HQ⟩ := (H.out.below HB.out).intAt hlt
      obtain ⟨a, x, y, z, rfl, hab, hcx, hcy, hcz, HP⟩ := (H1.out.below HB.out).ProofAt hlt
      have i0 : (0 : Int) ≤ (k : Int) := by omega
      have i1 : (k : Int) < (n1 : Int) := by omega
      have HE : Hid (pfGood (ks.getD k 0) (l.getD k (0, 0, 0)) = goodB q x y z) := Lib.hid (by rw [← HQ.out, HP.out]; rfl)
      clear HQ HP
      go_wp2
      go_still_tail 8, (by kernel_rfl)
      change wpList _ _ _ _ _ wr.drew
      go_wp2_with fail
      refine (X_s_ProofGood q x y z wr.drew).mono ?_
      rintro e w2 ⟨rfl, hb2⟩
      have HB2 : Hid (Below w.heap.size w w2) := Lib.hid (HB.out.trans ((nb14 hb2).mono HB.out.size))
      clear hb2 HB hcq hcx hcy hcz
      cases hg : goodB q x y z
      · have HF : Hid (false = egoodB ks ch l) := Lib.hid (by rw [HC.out, goodsK_no hlt (by rw [HE.out, hg])]; rfl)
        go_wp2
        go_ret
        exact ⟨ret_bool HF.out, HB2.out⟩
      · have HK2 : Hid (goodsK ks l (k + 1) = true) := Lib.hid (by unfold goodsK; rw [HK.out, HE.out, hg]; rfl)
        clear HK
        go_wp2
        go_roundw
        case rel => exact ⟨k + 1, by omega, by go_num, HK2, HB2⟩
        case measure => simp [intOf] <;> omega
    · have HK2 : Hid (goodsK ks l n1 = true) := Lib.hid (by rw [show n1 = k by omega]; exact HK.out)
      have HF : Hid ((chalK l n1 == ch) = egoodB ks ch l) := Lib.hid (by rw [HC.out, HK2.out, Bool.eq_iff_iff]; simp)
      clear HK
      go_wp2_with fail
      refine (s_l15Chal _ _ _ w.heap.size l _ (H1.out.below HB.out) hn1 (chals_of HK2.out)).mono ?_
      rintro e w' ⟨rfl, rfl⟩
      go_wp2
      go_ret
      exact ⟨ret_bool HF.out, HB.out⟩

set_option maxHeartbeats 4000000 in
theorem X_i_EitherGood (v v1 : Value) (ks : List Int) (ch : Int) (l : List Pf) (w : World) (h : RdIntS w w.heap.size v ks) (h1 : RdProofS w w.heap.size v1 l) (hs : szIntS ks ≤ 1048576) (hs1 : szProofS l ≤ 1048576) :
    Calls Try.prog 25 #[v, .int .i64 ch, v1] w fun e w' => e = .returned (.bool (egoodB ks ch l)) ∧ Below w.heap.size w w' := by
  obtain ⟨A, n, c, rfl, _, h⟩ := h
  obtain ⟨A1, n1, c1, rfl, _, h1⟩ := h1
  have HL := Lib.hid h.len
  have HL1 := Lib.hid h1.Prooflen
  have hn : n ≤ 1048576 := by have := HL.out; unfold szIntS at hs; omega
  have hn1 : n1 ≤ 1048576 := by have := HL1.out; unfold szProofS at hs1; omega
  have H := Lib.hid h
  have H1 := Lib.hid h1
  clear h h1 hs hs1
  go_enter Try.func25, Try.ntmps25
  go_wp2_with fail
  refine (i_keysOk _ _ _ _ _ H.out hn).mono ?_
  rintro e w' ⟨rfl, rfl⟩
  cases hk : keysB ks
  · have HF : Hid (false = egoodB ks ch l) := Lib.hid (by unfold egoodB; rw [hk]; rfl)
    go_wp2
    go_ret
    exact ⟨ret_bool HF.out, Below.refl _ _⟩
  go_wp2_with fail
  refine (i_NumOk _ _).mono ?_
  rintro e w' ⟨rfl, rfl⟩
  cases hc : numB ch
  · have HF : Hid (false = egoodB ks ch l) := Lib.hid (by unfold egoodB; rw [hk, hc]; rfl)
    go_wp2
    go_ret
    exact ⟨ret_bool HF.out, Below.refl _ _⟩
  go_wp2_with fail
  refine (i_goods A n c ks A1 n1 c1 l w H.out H1.out hn hn1).mono ?_
  rintro e w1 ⟨rfl, hb⟩
  have HB := Lib.hid hb
  clear hb
  cases hg : goodsB ks l
  · have HF : Hid (false = egoodB ks ch l) := Lib.hid (by unfold egoodB; rw [hk, hc, hg]; rfl)
    go_wp2
    go_ret
    exact ⟨ret_bool HF.out, HB.out⟩
  have HG := Lib.hid (goodsB_len hg)
  have HF : Hid ((chalK l n1 == ch) = egoodB ks ch l) := Lib.hid (by unfold egoodB; rw [hk, hc, hg, HL1.out, Bool.eq_iff_iff]; simp)
  have HCH := Lib.hid (chals_of (by have := HG.out.2; rw [← HG.out.1, HL1.out] at this; exact this))
  clear hk hc hg
  go_wp2_with fail
  refine (i_chalOf_Proof A1 n1 c1 l w1 ((H1.out.below HB.out).more HB.out.size) hn1 HCH.out).mono ?_
  rintro e w2 ⟨rfl, hb⟩
  have HB2 : Hid (Below w.heap.size w w2) := Lib.hid (HB.out.trans (hb.mono HB.out.size))
  clear hb
  go_wp2
  go_ret
  exact ⟨ret_bool HF.out, HB2.out⟩

theorem ret_iib {a b a' b' : Int} {d d' : Bool} (h1 : a = a') (h2 : b = b') (h3 : d = d') : Ending.returned (.tuple #[.int .i64 a, .int .i64 b, .bool d]) = .returned (.tuple #[.int .i64 a', .int .i64 b', .bool d']) := by rw [h1, h2, h3]
theorem comsK_no {a b : List Pf} {n k : Nat} (hk : k < n) (h : (a.getD k (0, 0, 0)).1 ≠ (b.getD k (0, 0, 0)).1) : comsK a b n = false := by
  induction n with
  | zero => omega
  | succ n ih =>
    unfold comsK
    by_cases e : k = n
    · subst e; rw [decide_eq_false h, Bool.and_false]
    · rw [ih (by omega)]; rfl
theorem comsK_at {a b : List Pf} {n k : Nat} (h : comsK a b n = true) (hk : k < n) : (a.getD k (0, 0, 0)).1 = (b.getD k (0, 0, 0)).1 := by
  by_cases e : (a.getD k (0, 0, 0)).1 = (b.getD k (0, 0, 0)).1
  · exact e
  · rw [comsK_no hk e] at h; cases h
theorem esec_no {ks : List Int} {a b : List Pf} (h : esecB ks a b = false) : Hid (0 = esecI ks a b ∧ 0 = esecV ks a b ∧ false = esecB ks a b) := Lib.hid ⟨by unfold esecI; rw [h]; rfl, by unfold esecV; rw [h]; rfl, h.symm⟩
theorem esec_yes {ks : List Int} {a b : List Pf} {k : Nat} (hk : keysB ks = true) (ga : goodsB ks a = true) (gb : goodsB ks b = true) (hc : comsK a b ks.length = true) (hd : chalK a ks.length ≠ chalK b ks.length) (hp : diffP a b ks.length ks.length = k) (hlt : k < ks.length) :
    Hid ((k : Int) = esecI ks a b ∧ secI (a.getD k (0, 0, 0)) (b.getD k (0, 0, 0)) = esecV ks a b ∧ true = esecB ks a b) := Lib.hid (by
  have hb : esecB ks a b = true := by unfold esecB; rw [hk, ga, gb, hc, hp]; simp [hd, hlt]
  exact ⟨by unfold esecI; rw [if_pos hb, hp], by unfold esecV; rw [if_pos hb, hp], hb.symm⟩)
theorem esec_len {ks : List Int} {a b : List Pf} (h : a.length ≠ b.length) : esecB ks a b = false := by
  cases hb : esecB ks a b
  · rfl
  · exfalso
    simp only [esecB, Bool.and_eq_true] at hb
    have q1 := (goodsB_len hb.2.1).1
    have q2 := (goodsB_len hb.2.2.1).1
    omega
theorem esec_none {ks : List Int} {a b : List Pf} (hp : diffP a b ks.length ks.length = ks.length) : esecB ks a b = false := by unfold esecB; rw [hp]; simp
set_option maxHeartbeats 1000000 in
theorem i_sameComs (A : Option Addr) (n c : Nat) (a : List Pf) (A' : Option Addr) (n' c' : Nat) (b : List Pf) (w : World) (h : Rd w w.heap.size 3 A n (cProof a)) (h' : Rd w w.heap.size 3 A' n' (cProof b)) (hn : n ≤ 1048576) (hnn : n ≤ n') :
    Calls Try.prog 71 #[.slice A n c, .slice A' n' c'] w fun e w' => e = .returned (.bool (comsK a b n)) ∧ Still w w' := by
  have H := Lib.hid h
  have H' := Lib.hid h'
  clear h h'
  go_enter Try.func71, Try.ntmps71
  go_wp2
  go_loopw [8] (fun i wr => ∃ k m : Nat, k ≤ n ∧ i = .int .i64 k ∧ Hid (comsK a b k = true) ∧ wr = w.drewN m) (fun i _ => n - (intOf i).toNat)
  case atStart => exact ⟨0, 0, Nat.zero_le _, rfl, Lib.hid rfl, rfl⟩
  case round =>
    obtain ⟨k, m, hk, rfl, HK, rfl⟩ := hrel
    by_cases hlt : k < n
    · obtain ⟨p, x, y, z, rfl, hab, hcx, hcy, hcz, HP⟩ := H.out.ProofAt hlt
      obtain ⟨p', x', y', z', rfl, hab', hcx', hcy', hcz', HP'⟩ := H'.out.ProofAt (show k < n' by omega)
      have i0 : (0 : Int) ≤ (k : Int) := by omega
      have i1 : (k : Int) < (n : Int) := by omega
      have i2 : (k : Int) < (n' : Int) := by omega
      by_cases hx : x = x'
      · have HK2 : Hid (comsK a b (k + 1) = true) := Lib.hid (by unfold comsK; rw [HK.out, HP.out, HP'.out]; simp [hx])
        have e1 : (x != x') = false := by simp [hx]
        clear HK HP HP' hcy hcz hcy' hcz'
        go_wp2
        go_quiet (fail)
        go_wp2
        go_roundw
        case rel => exact ⟨k + 1, _, by omega, by go_num, HK2, rfl⟩
        case measure => simp [intOf] <;> omega
      · have HF : Hid (false = comsK a b n) := Lib.hid (comsK_no hlt (by rw [HP.out, HP'.out]; exact hx)).symm
        have e1 : (x != x') = true := by simp [hx]
        clear HK HP HP' hcy hcz hcy' hcz'
        go_wp2
        go_quiet (fail)
        go_wp2
        go_ret
        exact ⟨ret_bool HF.out, _, World.drewN_drewN _ _ _⟩
    · have HF : Hid (true = comsK a b n) := Lib.hid (by rw [show n = k by omega]; exact HK.out.symm)
      clear HK
      go_wp2
      go_ret
      exact ⟨ret_bool HF.out, m, rfl⟩

set_option maxHeartbeats 8000000 in
theorem X_i_EitherSecret (v v1 v2 : Value) (ks : List Int) (a b : List Pf) (w : World) (h : RdIntS w w.heap.size v ks) (h1 : RdProofS w w.heap.size v1 a) (h2 : RdProofS w w.heap.size v2 b) (hs : szIntS ks ≤ 1048576) (hs1 : szProofS a ≤ 1048576) (hs2 : szProofS b ≤ 1048576) :
    Calls Try.prog 27 #[v, v1, v2] w fun e w' => e = .returned (.tuple #[.int .i64 (esecI ks a b), .int .i64 (esecV ks a b), .bool (esecB ks a b)]) ∧ Below w.heap.size w w' := by
  obtain ⟨A, n, c, rfl, _, h⟩ := h
  obtain ⟨A1, n1, c1, rfl, _, h1⟩ := h1
  obtain ⟨A2, n2, c2, rfl, _, h2⟩ := h2
  have HL := Lib.hid h.len
  have HL1 := Lib.hid h1.Prooflen
  have HL2 := Lib.hid h2.Prooflen
  have hn : n ≤ 1048576 := by have := HL.out; unfold szIntS at hs; omega
  have hn1 : n1 ≤ 1048576 := by have := HL1.out; unfold szProofS at hs1; omega
  have hn2 : n2 ≤ 1048576 := by have := HL2.out; unfold szProofS at hs2; omega
  have H := Lib.hid h
  have H1 := Lib.hid h1
  have H2 := Lib.hid h2
  clear h h1 h2 hs hs1 hs2
  go_enter Try.func27, Try.ntmps27
  go_wp2_with fail
  refine (i_keysOk _ _ _ _ _ H.out hn).mono ?_
  rintro e w' ⟨rfl, rfl⟩
  cases hk : keysB ks
  · have HF := esec_no (ks := ks) (a := a) (b := b) (by unfold esecB; rw [hk]; rfl)
    go_wp2
    go_ret3
    exact ⟨ret_iib HF.out.1 HF.out.2.1 HF.out.2.2, Below.refl _ _⟩
  go_wp2_with fail
  refine (i_goods A n c ks A1 n1 c1 a w H.out H1.out hn hn1).mono ?_
  rintro e w1 ⟨rfl, hb⟩
  have HB := Lib.hid hb
  have z1 := hb.size
  clear hb
  cases ga : goodsB ks a
  · have HF := esec_no (ks := ks) (a := a) (b := b) (by unfold esecB; rw [hk, ga]; rfl)
    go_wp2
    go_ret3
    exact ⟨ret_iib HF.out.1 HF.out.2.1 HF.out.2.2, HB.out⟩
  go_wp2_with fail
  refine (i_goods A n c ks A2 n2 c2 b w1 ((H.out.below HB.out).more z1) ((H2.out.below HB.out).more z1) hn hn2).mono ?_
  rintro e w2 ⟨rfl, hb⟩
  replace HB : Hid (Below w.heap.size w w2) := Lib.hid (HB.out.trans (hb.mono z1))
  have z2 := HB.out.size
  clear hb z1
  cases gb : goodsB ks b
  · have HF := esec_no (ks := ks) (a := a) (b := b) (by unfold esecB; rw [hk, ga, gb]; rfl)
    go_wp2
    go_ret3
    exact ⟨ret_iib HF.out.1 HF.out.2.1 HF.out.2.2, HB.out⟩
  have la := (goodsB_len ga).1
  have lb := (goodsB_len gb).1
  rw [HL1.out, HL.out] at la
  rw [HL2.out, HL.out] at lb
  obtain rfl : n1 = n := la
  obtain rfl : n2 = n1 := lb
  obtain ⟨m, hm⟩ : ∃ m : Nat, n2 = m := ⟨_, rfl⟩
  subst hm
  have HGA : Hid (goodsK ks a n2 = true) := Lib.hid (by have := (goodsB_len ga).2; rw [HL.out] at this; exact this)
  have HGB : Hid (goodsK ks b n2 = true) := Lib.hid (by have := (goodsB_len gb).2; rw [HL.out] at this; exact this)
  have HKB := Lib.hid hk
  have HA2 := Lib.hid ga
  have HB3 := Lib.hid gb
  clear hk ga gb
  go_wp2_with fail
  refine (i_sameComs A1 n2 c1 a A2 n2 c2 b w2 ((H1.out.below HB.out).more z2) ((H2.out.below HB.out).more z2) hn (Nat.le_refl _)).mono ?_
  rintro e w3 ⟨rfl, hst⟩
  have HB4 : Hid (Below w.heap.size w w3) := Lib.hid (HB.out.trans (hst.below _))
  have z3 := HB4.out.size
  clear hst HB z2
  cases hcm : comsK a b n2
  · have HF := esec_no (ks := ks) (a := a) (b := b) (by unfold esecB; rw [HL.out, hcm]; simp)
    go_wp2
    go_ret3
    exact ⟨ret_iib HF.out.1 HF.out.2.1 HF.out.2.2, HB4.out⟩
  have HCM := Lib.hid hcm
  clear hcm
  go_wp2_with fail
  refine (i_chalOf_Proof A1 n2 c1 a w3 ((H1.out.below HB4.out).more z3) hn (chals_of HGA.out)).mono ?_
  rintro e w4 ⟨rfl, hb⟩
  have HB5 : Hid (Below w.heap.size w w4) := Lib.hid (HB4.out.trans (hb.mono z3))
  have z4 := HB5.out.size
  clear hb z3 HB4
  go_wp2_with fail
  refine (i_chalOf_Proof A2 n2 c2 b w4 ((H2.out.below HB5.out).more z4) hn (chals_of HGB.out)).mono ?_
  rintro e w5 ⟨rfl, hb⟩
  have HB1 : Hid (Below w.heap.size w w5) := Lib.hid (HB5.out.trans (hb.mono z4))
  clear hb z4 HB5
  by_cases hcn : chalK a n2 = chalK b n2
  · have e1 : (chalK a n2 == chalK b n2) = true := by rw [beq_iff_eq]; exact hcn
    have HF := esec_no (ks := ks) (a := a) (b := b) (by unfold esecB; rw [HL.out]; simp [hcn])
    go_wp2
    go_ret3
    exact ⟨ret_iib HF.out.1 HF.out.2.1 HF.out.2.2, HB1.out⟩
  have e1 : (chalK a n2 == chalK b n2) = false := by rw [beq_eq_false_iff_ne]; exact hcn
  have HCN := Lib.hid hcn
  clear hcn
  go_wp2
  go_loopw [41] (fun i wr => ∃ k : Nat, k ≤ n2 ∧ i = .int .i64 k ∧ Hid (diffP a b n2 n2 = diffP a b n2 (n2 - k)) ∧ Hid (Below w.heap.size w wr)) (fun i _ => n2 - (intOf i).toNat)
  case atStart => exact ⟨0, Nat.zero_le _, rfl, Lib.hid rfl, HB1⟩
  case round =>
    obtain ⟨k, hk, rfl, HD, HB⟩ := hrel
    by_cases hlt : k < n2
    · obtain ⟨p0, q, rfl, hbb, hcq, HQ⟩ := H.out.intAt hlt
      obtain ⟨p1, x, y, z, rfl, hab, hcx, hcy, hcz, HP⟩ := H1.out.ProofAt hlt
      obtain ⟨p2, x', y', z', rfl, hab', hcx', hcy', hcz', HP'⟩ := H2.out.ProofAt hlt
      have i0 : (0 : Int) ≤ (k : Int) := by omega
      have i1 : (k : Int) < (n2 : Int) := by omega
      have hbw_hbb : (p0.add k).block < w.heap.size := by rw [add_block]; exact hbb
      have hbw_hab : (p1.add (k * 3)).block < w.heap.size := by rw [add_block]; exact hab
      have hbw_hab2 : (p2.add (k * 3)).block < w.heap.size := by rw [add_block]; exact hab'
      have g1 := goodsK_at HGA.out hlt
      have g2 := goodsK_at HGB.out hlt
      have hcm := comsK_at HCM.out hlt
      rw [← HQ.out, HP.out] at g1
      rw [← HQ.out, HP'.out] at g2
      rw [HP.out, HP'.out] at hcm
      have hxx : x = x' := hcm
      have HDS := Lib.hid (diffP_step (a := a) (b := b) hlt)
      rw [HP.out, HP'.out] at HDS
      have G1 : Hid (goodB q x y z = true) := Lib.hid g1
      have G2 : Hid (goodB q x' y' z' = true) := Lib.hid g2
      have HXX := Lib.hid hxx
      clear g1 g2 hcm hxx HQ
      by_cases hyy : y = y'
      · have HD2 : Hid (diffP a b n2 n2 = diffP a b n2 (n2 - (k + 1))) := Lib.hid (by rw [HD.out, HDS.out]; exact if_pos hyy)
        have HSB : Hid (secB q x y z x' y' z' = false) := Lib.hid (by unfold secB; rw [G1.out, G2.out]; simp [hyy])
        have HSP : Hid (∀ W : World, Calls Try.prog 72 #[.int .i64 q, .agg #[.int .i64 x, .int .i64 y, .int .i64 z], .agg #[.int .i64 x', .int .i64 y', .int .i64 z']] W fun e w' => e = .returned (.tuple #[.int .i64 (secV q x y z x' y' z'), .bool false]) ∧ Below W.heap.size W w') := Lib.hid fun W => by rw [← HSB.out]; exact X_i_ProofSecret q x y z x' y' z' W
        have HDX := HD
        clear HD HDS HP HP' hyy G1 G2 HXX HSB
        have fq := (HB.out.cell (p := p0.add k) hbw_hbb).trans hcq
        go_wp2
        refine wp_region_held_drew (S := fun w' => w'.cell? (p0.add k) = some (.int .i64 q) ∧ w'.cell? (p1.add (k * 3)) = some (.int .i64 x) ∧ w'.cell? ⟨(p1.add (k * 3)).block, (p1.add (k * 3)).off + 1, none⟩ = some (.int .i64 y) ∧ w'.cell? ⟨(p1.add (k * 3)).block, (p1.add (k * 3)).off + 2, none⟩ = some (.int .i64 z) ∧ w'.cell? (p2.add (k * 3)) = some (.int .i64 x') ∧ w'.cell? ⟨(p2.add (k * 3)).block, (p2.add (k * 3)).off + 1, none⟩ = some (.int .i64 y') ∧ w'.cell? ⟨(p2.add (k * 3)).block, (p2.add (k * 3)).off + 2, none⟩ = some (.int .i64 z')) (by kernel_rfl) ⟨(HB.out.cell (p := (p0.add k)) hbw_hbb).trans hcq, (HB.out.cell (p := (p1.add (k * 3))) hbw_hab).trans hcx, (HB.out.cell (p := ⟨(p1.add (k * 3)).block, (p1.add (k * 3)).off + 1, none⟩) hbw_hab).trans hcy, (HB.out.cell (p := ⟨(p1.add (k * 3)).block, (p1.add (k * 3)).off + 2, none⟩) hbw_hab).trans hcz, (HB.out.cell (p := (p2.add (k * 3))) hbw_hab2).trans hcx', (HB.out.cell (p := ⟨(p2.add (k * 3)).block, (p2.add (k * 3)).off + 1, none⟩) hbw_hab2).trans hcy', (HB.out.cell (p := ⟨(p2.add (k * 3)).block, (p2.add (k * 3)).off + 2, none⟩) hbw_hab2).trans hcz'⟩ (fun hHeld => ?_)
        obtain ⟨u0, hu0⟩ : ∃ u0, Hid (wr.drew = u0) := ⟨_, Lib.hid rfl⟩
        rw [hu0.out] at hHeld ⊢
        have zs0 : wr.heap.size = u0.heap.size := by rw [← hu0.out]; rfl
        replace zs0 := Nat.le_of_eq zs0
        have HBl0 : Hid (Below w.heap.size w u0) := Lib.hid (by rw [← hu0.out]; exact HB.out.drew)
        clear hu0
        refine wpAnyH_take (i := 0) (oi := { dst := some 47, op := Op.move (Operand.tmp 10), type := 3, pos := "l15_either.go:130", after := #[], guard := none }) (v := ?_) rfl (by kernel_rfl) (by kernel_rfl) (by kernel_rfl) (fun _ _ _ h => h) (Or.inl ⟨by rfl, ?_⟩) hHeld ?_
        rotate_left
        · intro w hSw; obtain ⟨s0, s1, s2, s3, s4, s5, s6⟩ := hSw; (try dsimp only at hSw); go_simp; (try with_reducible rfl)
        try simp only [Act.put, List.setIfInBounds_toArray, List.set_cons_zero, List.set_cons_succ]
        refine wpAnyH_take (i := 1) (oi := { dst := some 48, op := Op.move (Operand.tmp 1), type := 23, pos := "l15_either.go:130", after := #[], guard := none }) (v := ?_) rfl (by kernel_rfl) (by kernel_rfl) (by kernel_rfl) (fun _ _ _ h => h) (Or.inl ⟨by rfl, ?_⟩) hHeld ?_
        rotate_left
        · intro w hSw; obtain ⟨s0, s1, s2, s3, s4, s5, s6⟩ := hSw; (try dsimp only at hSw); go_simp; (try with_reducible rfl)
        try simp only [Act.put, List.setIfInBounds_toArray, List.set_cons_zero, List.set_cons_succ]
        refine wpAnyH_take (i := 2) (oi := { dst := some 49, op := Op.move (Operand.tmp 9), type := 3, pos := "l15_either.go:130", after := #[], guard := none }) (v := ?_) rfl (by kernel_rfl) (by kernel_rfl) (by kernel_rfl) (fun _ _ _ h => h) (Or.inl ⟨by rfl, ?_⟩) hHeld ?_
        rotate_left
        · intro w hSw; obtain ⟨s0, s1, s2, s3, s4, s5, s6⟩ := hSw; (try dsimp only at hSw); go_simp; (try with_reducible rfl)
        try simp only [Act.put, List.setIfInBounds_toArray, List.set_cons_zero, List.set_cons_succ]
        refine wpAnyH_take (i := 3) (oi := { dst := some 50, op := Op.indexAddr 23 (Operand.tmp 48) (Operand.tmp 49), type := 0, pos := "l15_either.go:130", after := #[{ on := 1, ground := Ground.data }, { on := 2, ground := Ground.data }], guard := none }) (v := ?_) rfl (by kernel_rfl) (by kernel_rfl) (by kernel_rfl) (fun _ _ _ h => h) (Or.inl ⟨by rfl, ?_⟩) hHeld ?_
        rotate_left
        · intro w hSw; obtain ⟨s0, s1, s2, s3, s4, s5, s6⟩ := hSw; (try dsimp only at hSw); go_simp; (try with_reducible rfl)
        try simp only [Act.put, List.setIfInBounds_toArray, List.set_cons_zero, List.set_cons_succ]
        refine wpAnyH_take (i := 4) (oi := { dst := some 51, op := Op.load 69 (Operand.tmp 50), type := 69, pos := "l15_either.go:130", after := #[{ on := 3, ground := Ground.data }], guard := none }) (v := ?_) rfl (by kernel_rfl) (by kernel_rfl) (by kernel_rfl) (fun _ _ _ h => h) (Or.inl ⟨by rfl, ?_⟩) hHeld ?_
        rotate_left
        · intro w hSw; obtain ⟨s0, s1, s2, s3, s4, s5, s6⟩ := hSw; (try dsimp only at hSw); go_simp; (try with_reducible rfl)
        try simp only [Act.put, List.setIfInBounds_toArray, List.set_cons_zero, List.set_cons_succ]
        refine wpAnyH_take (i := 5) (oi := { dst := some 52, op := Op.move (Operand.tmp 2), type := 23, pos := "l15_either.go:130", after := #[], guard := none }) (v := ?_) rfl (by kernel_rfl) (by kernel_rfl) (by kernel_rfl) (fun _ _ _ h => h) (Or.inl ⟨by rfl, ?_⟩) hHeld ?_
        rotate_left
        · intro w hSw; obtain ⟨s0, s1, s2, s3, s4, s5, s6⟩ := hSw; (try dsimp only at hSw); go_simp; (try with_reducible rfl)
        try simp only [Act.put, List.setIfInBounds_toArray, List.set_cons_zero, List.set_cons_succ]
        refine wpAnyH_take (i := 6) (oi := { dst := some 53, op := Op.move (Operand.tmp 9), type := 3, pos := "l15_either.go:130", after := #[], guard := none }) (v := ?_) rfl (by kernel_rfl) (by kernel_rfl) (by kernel_rfl) (fun _ _ _ h => h) (Or.inl ⟨by rfl, ?_⟩) hHeld ?_
        rotate_left
        · intro w hSw; obtain ⟨s0, s1, s2, s3, s4, s5, s6⟩ := hSw; (try dsimp only at hSw); go_simp; (try with_reducible rfl)
        try simp only [Act.put, List.setIfInBounds_toArray, List.set_cons_zero, List.set_cons_succ]
        refine wpAnyH_take (i := 7) (oi := { dst := some 54, op := Op.indexAddr 23 (Operand.tmp 52) (Operand.tmp 53), type := 0, pos := "l15_either.go:130", after := #[{ on := 5, ground := Ground.data }, { on := 6, ground := Ground.data }], guard := none }) (v := ?_) rfl (by kernel_rfl) (by kernel_rfl) (by kernel_rfl) (fun _ _ _ h => h) (Or.inl ⟨by rfl, ?_⟩) hHeld ?_
        rotate_left
        · intro w hSw; obtain ⟨s0, s1, s2, s3, s4, s5, s6⟩ := hSw; (try dsimp only at hSw); go_simp; (try with_reducible rfl)
        try simp only [Act.put, List.setIfInBounds_toArray, List.set_cons_zero, List.set_cons_succ]
        refine wpAnyH_take (i := 8) (oi := { dst := some 55, op := Op.load 69 (Operand.tmp 54), type := 69, pos := "l15_either.go:130", after := #[{ on := 7, ground := Ground.data }], guard := none }) (v := ?_) rfl (by kernel_rfl) (by kernel_rfl) (by kernel_rfl) (fun _ _ _ h => h) (Or.inl ⟨by rfl, ?_⟩) hHeld ?_
        rotate_left
        · intro w hSw; obtain ⟨s0, s1, s2, s3, s4, s5, s6⟩ := hSw; (try dsimp only at hSw); go_simp; (try with_reducible rfl)
        try simp only [Act.put, List.setIfInBounds_toArray, List.set_cons_zero, List.set_cons_succ]
        refine wpAnyH_ready (rs := [9]) (by kernel_rfl) (by simp) ?_
        refine AllReadyH.cons (o := { dst := some 56, op := Op.call { callee := Callee.value (Operand.func 72), args := #[Operand.tmp 47, Operand.tmp 51, Operand.tmp 55], argTypes := #[3, 69, 69] }, type := 90, pos := "l15_either.go:130", after := #[{ on := 0, ground := Ground.data }, { on := 4, ground := Ground.data }, { on := 8, ground := Ground.data }], guard := none }) rfl (fun K hK => ?_) ?_
        · go_simp
          refine (HSP.out u0).mono ?_
          rintro e u1 ⟨rfl, hb_⟩
          have zs1 : u0.heap.size ≤ u1.heap.size := hb_.size
          have HBl1 : Hid (Below w.heap.size w u1) := Lib.hid (HBl0.out.trans (hb_.mono HBl0.out.size))
          clear hHeld hb_ HBl0
          (try dsimp only)
          (try go_wp2_with fail)
          refine hK.out _ _ ⟨((HBl1.out.cell (p := (p0.add k)) hbw_hbb).trans hcq), ((HBl1.out.cell (p := (p1.add (k * 3))) hbw_hab).trans hcx), ((HBl1.out.cell (p := ⟨(p1.add (k * 3)).block, (p1.add (k * 3)).off + 1, none⟩) hbw_hab).trans hcy), ((HBl1.out.cell (p := ⟨(p1.add (k * 3)).block, (p1.add (k * 3)).off + 2, none⟩) hbw_hab).trans hcz), ((HBl1.out.cell (p := (p2.add (k * 3))) hbw_hab2).trans hcx'), ((HBl1.out.cell (p := ⟨(p2.add (k * 3)).block, (p2.add (k * 3)).off + 1, none⟩) hbw_hab2).trans hcy'), ((HBl1.out.cell (p := ⟨(p2.add (k * 3)).block, (p2.add (k * 3)).off + 2, none⟩) hbw_hab2).trans hcz')⟩ (fun hHeld => ?_)
          clear hK K
          try simp only [Act.put, List.setIfInBounds_toArray, List.set_cons_zero, List.set_cons_succ]
          refine wpAnyH_take (i := 10) (oi := { dst := some 46, op := Op.move (Operand.tmp 56), type := 90, pos := "l15_either.go:130", after := #[{ on := 9, ground := Ground.data }], guard := none }) (v := ?_) rfl (by kernel_rfl) (by kernel_rfl) (by kernel_rfl) (fun _ _ _ h => h) (Or.inl ⟨by rfl, ?_⟩) hHeld ?_
          rotate_left
          · intro w hSw; obtain ⟨s0, s1, s2, s3, s4, s5, s6⟩ := hSw; (try dsimp only at hSw); go_simp; (try with_reducible rfl)
          try simp only [Act.put, List.setIfInBounds_toArray, List.set_cons_zero, List.set_cons_succ]
          refine wpAnyH_take (i := 11) (oi := { dst := some 57, op := Op.extract (Operand.tmp 46) 0, type := 3, pos := "l15_either.go:130", after := #[{ on := 10, ground := Ground.data }], guard := none }) (v := ?_) rfl (by kernel_rfl) (by kernel_rfl) (by kernel_rfl) (fun _ _ _ h => h) (Or.inl ⟨by rfl, ?_⟩) hHeld ?_
          rotate_left
          · intro w hSw; obtain ⟨s0, s1, s2, s3, s4, s5, s6⟩ := hSw; (try dsimp only at hSw); go_simp; (try with_reducible rfl)
          try simp only [Act.put, List.setIfInBounds_toArray, List.set_cons_zero, List.set_cons_succ]
          refine wpAnyH_take (i := 12) (oi := { dst := some 58, op := Op.extract (Operand.tmp 46) 1, type := 4, pos := "l15_either.go:130", after := #[{ on := 10, ground := Ground.data }, { on := 13, ground := Ground.gcOnly Departure.lateStores }], guard := none }) (v := ?_) rfl (by kernel_rfl) (by kernel_rfl) (by kernel_rfl) (fun _ _ _ h => h) (Or.inl ⟨by rfl, ?_⟩) hHeld ?_
          rotate_left
          · intro w hSw; obtain ⟨s0, s1, s2, s3, s4, s5, s6⟩ := hSw; (try dsimp only at hSw); go_simp; (try with_reducible rfl)
          try simp only [Act.put, List.setIfInBounds_toArray, List.set_cons_zero, List.set_cons_succ]
          refine wpAnyH_take (i := 13) (oi := { dst := some 11, op := Op.assign (Operand.tmp 57), type := 3, pos := "l15_either.go:130", after := #[{ on := 11, ground := Ground.data }, { on := 9, ground := Ground.chain }, { on := 0, ground := Ground.phase }, { on := 1, ground := Ground.phase }, { on := 2, ground := Ground.phase }, { on := 3, ground := Ground.phase }, { on := 4, ground := Ground.phase }, { on := 5, ground := Ground.phase }, { on := 6, ground := Ground.phase }, { on := 7, ground := Ground.phase }, { on := 8, ground := Ground.phase }, { on := 9, ground := Ground.phase }, { on := 10, ground := Ground.phase }, { on := 11, ground := Ground.phase }, { on := 12, ground := Ground.textOnly Departure.lateStores }], guard := none }) (v := ?_) rfl (by kernel_rfl) (by kernel_rfl) (by kernel_rfl) (fun _ _ _ h => h) (Or.inl ⟨by rfl, ?_⟩) hHeld ?_
          rotate_left
          · intro w hSw; obtain ⟨s0, s1, s2, s3, s4, s5, s6⟩ := hSw; (try dsimp only at hSw); go_simp; (try with_reducible rfl)
          try simp only [Act.put, List.setIfInBounds_toArray, List.set_cons_zero, List.set_cons_succ]
          refine wpAnyH_take (i := 14) (oi := { dst := some 12, op := Op.assign (Operand.tmp 58), type := 4, pos := "l15_either.go:130", after := #[{ on := 12, ground := Ground.data }, { on := 13, ground := Ground.chain }, { on := 0, ground := Ground.phase }, { on := 1, ground := Ground.phase }, { on := 2, ground := Ground.phase }, { on := 3, ground := Ground.phase }, { on := 4, ground := Ground.phase }, { on := 5, ground := Ground.phase }, { on := 6, ground := Ground.phase }, { on := 7, ground := Ground.phase }, { on := 8, ground := Ground.phase }, { on := 9, ground := Ground.phase }, { on := 10, ground := Ground.phase }, { on := 11, ground := Ground.phase }, { on := 12, ground := Ground.phase }, { on := 13, ground := Ground.phase }], guard := none }) (v := ?_) rfl (by kernel_rfl) (by kernel_rfl) (by kernel_rfl) (fun _ _ _ h => h) (Or.inl ⟨by rfl, ?_⟩) hHeld ?_
          rotate_left
          · intro w hSw; obtain ⟨s0, s1, s2, s3, s4, s5, s6⟩ := hSw; (try dsimp only at hSw); go_simp; (try with_reducible rfl)
          try simp only [Act.put, List.setIfInBounds_toArray, List.set_cons_zero, List.set_cons_succ]
          refine wpAnyH_done (by kernel_rfl) ?_ _
          clear HDX
          go_wp2
          go_roundw
          case rel => exact ⟨k + 1, by omega, by go_num, HD2, HBl1⟩
          case measure => simp [intOf] <;> omega
        exact AllReadyH.nil
      · have HPK : Hid (diffP a b n2 n2 = k) := Lib.hid (by rw [HD.out, HDS.out]; exact if_neg hyy)
        have HY := esec_yes (k := k) HKB.out HA2.out HB3.out (by rw [HL.out]; exact HCM.out) (by rw [HL.out]; exact HCN.out) (by rw [HL.out]; exact HPK.out) (by rw [HL.out]; exact hlt)
        rw [HP.out, HP'.out] at HY
        have hsb : secB q x y z x' y' z' = true := by unfold secB; rw [G1.out, G2.out]; simp [HXX.out, hyy]
        have HSP : Hid (∀ W : World, Calls Try.prog 72 #[.int .i64 q, .agg #[.int .i64 x, .int .i64 y, .int .i64 z], .agg #[.int .i64 x', .int .i64 y', .int .i64 z']] W fun e w' => e = .returned (.tuple #[.int .i64 (secI (x, y, z) (x', y', z')), .bool true]) ∧ Below W.heap.size W w') := Lib.hid fun W => by
          have h0 := X_i_ProofSecret q x y z x' y' z' W
          rw [hsb, show secV q x y z x' y' z' = secI (x, y, z) (x', y', z') by unfold secV; rw [if_pos hsb]; rfl] at h0
          exact h0
        clear HD HDS HP HP' hyy G1 G2 HXX hsb
        have fq := (HB.out.cell (p := p0.add k) hbw_hbb).trans hcq
        go_wp2
        refine wp_region_held_drew (S := fun w' => w'.cell? (p0.add k) = some (.int .i64 q) ∧ w'.cell? (p1.add (k * 3)) = some (.int .i64 x) ∧ w'.cell? ⟨(p1.add (k * 3)).block, (p1.add (k * 3)).off + 1, none⟩ = some (.int .i64 y) ∧ w'.cell? ⟨(p1.add (k * 3)).block, (p1.add (k * 3)).off + 2, none⟩ = some (.int .i64 z) ∧ w'.cell? (p2.add (k * 3)) = some (.int .i64 x') ∧ w'.cell? ⟨(p2.add (k * 3)).block, (p2.add (k * 3)).off + 1, none⟩ = some (.int .i64 y') ∧ w'.cell? ⟨(p2.add (k * 3)).block, (p2.add (k * 3)).off + 2, none⟩ = some (.int .i64 z')) (by kernel_rfl) ⟨(HB.out.cell (p := (p0.add k)) hbw_hbb).trans hcq, (HB.out.cell (p := (p1.add (k * 3))) hbw_hab).trans hcx, (HB.out.cell (p := ⟨(p1.add (k * 3)).block, (p1.add (k * 3)).off + 1, none⟩) hbw_hab).trans hcy, (HB.out.cell (p := ⟨(p1.add (k * 3)).block, (p1.add (k * 3)).off + 2, none⟩) hbw_hab).trans hcz, (HB.out.cell (p := (p2.add (k * 3))) hbw_hab2).trans hcx', (HB.out.cell (p := ⟨(p2.add (k * 3)).block, (p2.add (k * 3)).off + 1, none⟩) hbw_hab2).trans hcy', (HB.out.cell (p := ⟨(p2.add (k * 3)).block, (p2.add (k * 3)).off + 2, none⟩) hbw_hab2).trans hcz'⟩ (fun hHeld => ?_)
        obtain ⟨u0, hu0⟩ : ∃ u0, Hid (wr.drew = u0) := ⟨_, Lib.hid rfl⟩
        rw [hu0.out] at hHeld ⊢
        have zs0 : wr.heap.size = u0.heap.size := by rw [← hu0.out]; rfl
        replace zs0 := Nat.le_of_eq zs0
        have HBl0 : Hid (Below w.heap.size w u0) := Lib.hid (by rw [← hu0.out]; exact HB.out.drew)
        clear hu0
        refine wpAnyH_take (i := 0) (oi := { dst := some 47, op := Op.move (Operand.tmp 10), type := 3, pos := "l15_either.go:130", after := #[], guard := none }) (v := ?_) rfl (by kernel_rfl) (by kernel_rfl) (by kernel_rfl) (fun _ _ _ h => h) (Or.inl ⟨by rfl, ?_⟩) hHeld ?_
        rotate_left
        · intro w hSw; obtain ⟨s0, s1, s2, s3, s4, s5, s6⟩ := hSw; (try dsimp only at hSw); go_simp; (try with_reducible rfl)
        try simp only [Act.put, List.setIfInBounds_toArray, List.set_cons_zero, List.set_cons_succ]
        refine wpAnyH_take (i := 1) (oi := { dst := some 48, op := Op.move (Operand.tmp 1), type := 23, pos := "l15_either.go:130", after := #[], guard := none }) (v := ?_) rfl (by kernel_rfl) (by kernel_rfl) (by kernel_rfl) (fun _ _ _ h => h) (Or.inl ⟨by rfl, ?_⟩) hHeld ?_
        rotate_left
        · intro w hSw; obtain ⟨s0, s1, s2, s3, s4, s5, s6⟩ := hSw; (try dsimp only at hSw); go_simp; (try with_reducible rfl)
        try simp only [Act.put, List.setIfInBounds_toArray, List.set_cons_zero, List.set_cons_succ]
        refine wpAnyH_take (i := 2) (oi := { dst := some 49, op := Op.move (Operand.tmp 9), type := 3, pos := "l15_either.go:130", after := #[], guard := none }) (v := ?_) rfl (by kernel_rfl) (by kernel_rfl) (by kernel_rfl) (fun _ _ _ h => h) (Or.inl ⟨by rfl, ?_⟩) hHeld ?_
        rotate_left
        · intro w hSw; obtain ⟨s0, s1, s2, s3, s4, s5, s6⟩ := hSw; (try dsimp only at hSw); go_simp; (try with_reducible rfl)
        try simp only [Act.put, List.setIfInBounds_toArray, List.set_cons_zero, List.set_cons_succ]
        refine wpAnyH_take (i := 3) (oi := { dst := some 50, op := Op.indexAddr 23 (Operand.tmp 48) (Operand.tmp 49), type := 0, pos := "l15_either.go:130", after := #[{ on := 1, ground := Ground.data }, { on := 2, ground := Ground.data }], guard := none }) (v := ?_) rfl (by kernel_rfl) (by kernel_rfl) (by kernel_rfl) (fun _ _ _ h => h) (Or.inl ⟨by rfl, ?_⟩) hHeld ?_
        rotate_left
        · intro w hSw; obtain ⟨s0, s1, s2, s3, s4, s5, s6⟩ := hSw; (try dsimp only at hSw); go_simp; (try with_reducible rfl)
        try simp only [Act.put, List.setIfInBounds_toArray, List.set_cons_zero, List.set_cons_succ]
        refine wpAnyH_take (i := 4) (oi := { dst := some 51, op := Op.load 69 (Operand.tmp 50), type := 69, pos := "l15_either.go:130", after := #[{ on := 3, ground := Ground.data }], guard := none }) (v := ?_) rfl (by kernel_rfl) (by kernel_rfl) (by kernel_rfl) (fun _ _ _ h => h) (Or.inl ⟨by rfl, ?_⟩) hHeld ?_
        rotate_left
        · intro w hSw; obtain ⟨s0, s1, s2, s3, s4, s5, s6⟩ := hSw; (try dsimp only at hSw); go_simp; (try with_reducible rfl)
        try simp only [Act.put, List.setIfInBounds_toArray, List.set_cons_zero, List.set_cons_succ]
        refine wpAnyH_take (i := 5) (oi := { dst := some 52, op := Op.move (Operand.tmp 2), type := 23, pos := "l15_either.go:130", after := #[], guard := none }) (v := ?_) rfl (by kernel_rfl) (by kernel_rfl) (by kernel_rfl) (fun _ _ _ h => h) (Or.inl ⟨by rfl, ?_⟩) hHeld ?_
        rotate_left
        · intro w hSw; obtain ⟨s0, s1, s2, s3, s4, s5, s6⟩ := hSw; (try dsimp only at hSw); go_simp; (try with_reducible rfl)
        try simp only [Act.put, List.setIfInBounds_toArray, List.set_cons_zero, List.set_cons_succ]
        refine wpAnyH_take (i := 6) (oi := { dst := some 53, op := Op.move (Operand.tmp 9), type := 3, pos := "l15_either.go:130", after := #[], guard := none }) (v := ?_) rfl (by kernel_rfl) (by kernel_rfl) (by kernel_rfl) (fun _ _ _ h => h) (Or.inl ⟨by rfl, ?_⟩) hHeld ?_
        rotate_left
        · intro w hSw; obtain ⟨s0, s1, s2, s3, s4, s5, s6⟩ := hSw; (try dsimp only at hSw); go_simp; (try with_reducible rfl)
        try simp only [Act.put, List.setIfInBounds_toArray, List.set_cons_zero, List.set_cons_succ]
        refine wpAnyH_take (i := 7) (oi := { dst := some 54, op := Op.indexAddr 23 (Operand.tmp 52) (Operand.tmp 53), type := 0, pos := "l15_either.go:130", after := #[{ on := 5, ground := Ground.data }, { on := 6, ground := Ground.data }], guard := none }) (v := ?_) rfl (by kernel_rfl) (by kernel_rfl) (by kernel_rfl) (fun _ _ _ h => h) (Or.inl ⟨by rfl, ?_⟩) hHeld ?_
        rotate_left
        · intro w hSw; obtain ⟨s0, s1, s2, s3, s4, s5, s6⟩ := hSw; (try dsimp only at hSw); go_simp; (try with_reducible rfl)
        try simp only [Act.put, List.setIfInBounds_toArray, List.set_cons_zero, List.set_cons_succ]
        refine wpAnyH_take (i := 8) (oi := { dst := some 55, op := Op.load 69 (Operand.tmp 54), type := 69, pos := "l15_either.go:130", after := #[{ on := 7, ground := Ground.data }], guard := none }) (v := ?_) rfl (by kernel_rfl) (by kernel_rfl) (by kernel_rfl) (fun _ _ _ h => h) (Or.inl ⟨by rfl, ?_⟩) hHeld ?_
        rotate_left
        · intro w hSw; obtain ⟨s0, s1, s2, s3, s4, s5, s6⟩ := hSw; (try dsimp only at hSw); go_simp; (try with_reducible rfl)
        try simp only [Act.put, List.setIfInBounds_toArray, List.set_cons_zero, List.set_cons_succ]
        refine wpAnyH_ready (rs := [9]) (by kernel_rfl) (by simp) ?_
        refine AllReadyH.cons (o := { dst := some 56, op := Op.call { callee := Callee.value (Operand.func 72), args := #[Operand.tmp 47, Operand.tmp 51, Operand.tmp 55], argTypes := #[3, 69, 69] }, type := 90, pos := "l15_either.go:130", after := #[{ on := 0, ground := Ground.data }, { on := 4, ground := Ground.data }, { on := 8, ground := Ground.data }], guard := none }) rfl (fun K hK => ?_) ?_
        · go_simp
          refine (HSP.out u0).mono ?_
          rintro e u1 ⟨rfl, hb_⟩
          have zs1 : u0.heap.size ≤ u1.heap.size := hb_.size
          have HBl1 : Hid (Below w.heap.size w u1) := Lib.hid (HBl0.out.trans (hb_.mono HBl0.out.size))
          clear hHeld hb_ HBl0
          (try dsimp only)
          (try go_wp2_with fail)
          refine hK.out _ _ ⟨((HBl1.out.cell (p := (p0.add k)) hbw_hbb).trans hcq), ((HBl1.out.cell (p := (p1.add (k * 3))) hbw_hab).trans hcx), ((HBl1.out.cell (p := ⟨(p1.add (k * 3)).block, (p1.add (k * 3)).off + 1, none⟩) hbw_hab).trans hcy), ((HBl1.out.cell (p := ⟨(p1.add (k * 3)).block, (p1.add (k * 3)).off + 2, none⟩) hbw_hab).trans hcz), ((HBl1.out.cell (p := (p2.add (k * 3))) hbw_hab2).trans hcx'), ((HBl1.out.cell (p := ⟨(p2.add (k * 3)).block, (p2.add (k * 3)).off + 1, none⟩) hbw_hab2).trans hcy'), ((HBl1.out.cell (p := ⟨(p2.add (k * 3)).block, (p2.add (k * 3)).off + 2, none⟩) hbw_hab2).trans hcz')⟩ (fun hHeld => ?_)
          clear hK K
          try simp only [Act.put, List.setIfInBounds_toArray, List.set_cons_zero, List.set_cons_succ]
          refine wpAnyH_take (i := 10) (oi := { dst := some 46, op := Op.move (Operand.tmp 56), type := 90, pos := "l15_either.go:130", after := #[{ on := 9, ground := Ground.data }], guard := none }) (v := ?_) rfl (by kernel_rfl) (by kernel_rfl) (by kernel_rfl) (fun _ _ _ h => h) (Or.inl ⟨by rfl, ?_⟩) hHeld ?_
          rotate_left
          · intro w hSw; obtain ⟨s0, s1, s2, s3, s4, s5, s6⟩ := hSw; (try dsimp only at hSw); go_simp; (try with_reducible rfl)
          try simp only [Act.put, List.setIfInBounds_toArray, List.set_cons_zero, List.set_cons_succ]
          refine wpAnyH_take (i := 11) (oi := { dst := some 57, op := Op.extract (Operand.tmp 46) 0, type := 3, pos := "l15_either.go:130", after := #[{ on := 10, ground := Ground.data }], guard := none }) (v := ?_) rfl (by kernel_rfl) (by kernel_rfl) (by kernel_rfl) (fun _ _ _ h => h) (Or.inl ⟨by rfl, ?_⟩) hHeld ?_
          rotate_left
          · intro w hSw; obtain ⟨s0, s1, s2, s3, s4, s5, s6⟩ := hSw; (try dsimp only at hSw); go_simp; (try with_reducible rfl)
          try simp only [Act.put, List.setIfInBounds_toArray, List.set_cons_zero, List.set_cons_succ]
          refine wpAnyH_take (i := 12) (oi := { dst := some 58, op := Op.extract (Operand.tmp 46) 1, type := 4, pos := "l15_either.go:130", after := #[{ on := 10, ground := Ground.data }, { on := 13, ground := Ground.gcOnly Departure.lateStores }], guard := none }) (v := ?_) rfl (by kernel_rfl) (by kernel_rfl) (by kernel_rfl) (fun _ _ _ h => h) (Or.inl ⟨by rfl, ?_⟩) hHeld ?_
          rotate_left
          · intro w hSw; obtain ⟨s0, s1, s2, s3, s4, s5, s6⟩ := hSw; (try dsimp only at hSw); go_simp; (try with_reducible rfl)
          try simp only [Act.put, List.setIfInBounds_toArray, List.set_cons_zero, List.set_cons_succ]
          refine wpAnyH_take (i := 13) (oi := { dst := some 11, op := Op.assign (Operand.tmp 57), type := 3, pos := "l15_either.go:130", after := #[{ on := 11, ground := Ground.data }, { on := 9, ground := Ground.chain }, { on := 0, ground := Ground.phase }, { on := 1, ground := Ground.phase }, { on := 2, ground := Ground.phase }, { on := 3, ground := Ground.phase }, { on := 4, ground := Ground.phase }, { on := 5, ground := Ground.phase }, { on := 6, ground := Ground.phase }, { on := 7, ground := Ground.phase }, { on := 8, ground := Ground.phase }, { on := 9, ground := Ground.phase }, { on := 10, ground := Ground.phase }, { on := 11, ground := Ground.phase }, { on := 12, ground := Ground.textOnly Departure.lateStores }], guard := none }) (v := ?_) rfl (by kernel_rfl) (by kernel_rfl) (by kernel_rfl) (fun _ _ _ h => h) (Or.inl ⟨by rfl, ?_⟩) hHeld ?_
          rotate_left
          · intro w hSw; obtain ⟨s0, s1, s2, s3, s4, s5, s6⟩ := hSw; (try dsimp only at hSw); go_simp; (try with_reducible rfl)
          try simp only [Act.put, List.setIfInBounds_toArray, List.set_cons_zero, List.set_cons_succ]
          refine wpAnyH_take (i := 14) (oi := { dst := some 12, op := Op.assign (Operand.tmp 58), type := 4, pos := "l15_either.go:130", after := #[{ on := 12, ground := Ground.data }, { on := 13, ground := Ground.chain }, { on := 0, ground := Ground.phase }, { on := 1, ground := Ground.phase }, { on := 2, ground := Ground.phase }, { on := 3, ground := Ground.phase }, { on := 4, ground := Ground.phase }, { on := 5, ground := Ground.phase }, { on := 6, ground := Ground.phase }, { on := 7, ground := Ground.phase }, { on := 8, ground := Ground.phase }, { on := 9, ground := Ground.phase }, { on := 10, ground := Ground.phase }, { on := 11, ground := Ground.phase }, { on := 12, ground := Ground.phase }, { on := 13, ground := Ground.phase }], guard := none }) (v := ?_) rfl (by kernel_rfl) (by kernel_rfl) (by kernel_rfl) (fun _ _ _ h => h) (Or.inl ⟨by rfl, ?_⟩) hHeld ?_
          rotate_left
          · intro w hSw; obtain ⟨s0, s1, s2, s3, s4, s5, s6⟩ := hSw; (try dsimp only at hSw); go_simp; (try with_reducible rfl)
          try simp only [Act.put, List.setIfInBounds_toArray, List.set_cons_zero, List.set_cons_succ]
          refine wpAnyH_done (by kernel_rfl) ?_ _
          go_wp2
          go_ret3
          exact ⟨ret_iib HY.out.1 HY.out.2.1 HY.out.2.2, HBl1.out⟩
        exact AllReadyH.nil
    · have HF := esec_no (ks := ks) (a := a) (b := b) (esec_none (by rw [HL.out, HD.out, show n2 - k = 0 by omega]; rfl))
      go_wp2
      go_ret3
      exact ⟨ret_iib HF.out.1 HF.out.2.1 HF.out.2.2, HB.out⟩
end Go.Proofs.Ytalokhilodlhfaa

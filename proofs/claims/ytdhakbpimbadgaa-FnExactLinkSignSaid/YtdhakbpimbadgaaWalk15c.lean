/- Chapter 15: EitherGood, EitherSecret of both sides. Made by tools/gen15/c.py. -/
import Derived.Test.YtdhakbpimbadgaaWalk15b
namespace Go.Proofs.Ytdhakbpimbadgaa
open Go.RowKit
set_option maxRecDepth 100000

theorem eg_ProofGood (args : Array Value) (W : World) : (callFunc 69 args).run Try.prog W = .ok (.enter 69 args) W := by kernel_rfl
theorem chals_of {ks : List Int} {l : List Pf} {n : Nat} (h : goodsK ks l n = true) : ∀ k, k < n → 0 ≤ (l.getD k (0, 0, 0)).2.1 ∧ (l.getD k (0, 0, 0)).2.1 ≤ 112 := fun _ hk => (pfGood_nums (goodsK_at h hk)).2.1
theorem goodsB_len {ks : List Int} {l : List Pf} (h : goodsB ks l = true) : l.length = ks.length ∧ goodsK ks l ks.length = true := by
  unfold goodsB at h; simpa using h
set_option maxHeartbeats 2000000 in
theorem i_goods (A : Option Addr) (n c : Nat) (zs : List Int) (A' : Option Addr) (n' c' : Nat) (l : List Pf) (w : World) (h : Rd w w.heap.size 1 A n (cI zs)) (h' : Rd w w.heap.size 3 A' n' (cProof l)) (hn : n ≤ 1048576) (hn' : n' ≤ 1048576) :
    Calls Try.prog 68 #[.slice A n c, .slice A' n' c', .func (.func 69) #[] #[]] w fun e w' => e = .returned (.bool (goodsB zs l)) ∧ Below w.heap.size w w' := by
  have h0 := i_eachGood_Proof 69 #[] pfGood A n c zs A' n' c' l w h h' hn hn' eg_ProofGood (fun q x y z W _ => X_i_ProofGood q x y z W)
  rw [gK_pf] at h0
  exact h0

set_option maxHeartbeats 4000000 in
theorem X_s_EitherGood (v v1 : Value) (ks : List Int) (ch : Int) (l : List Pf) (w : World) (h : RdIntS w w.heap.size v ks) (h1 : RdProofS w w.heap.size v1 l) (hs : szIntS ks ≤ 1048576) (hs1 : szProofS l ≤ 1048576) :
    Calls Try.prog 29 #[v, .int .i64 ch, v1] w fun e w' => e = .returned (.bool (egoodB ks ch l)) ∧ Below w.heap.size w w' := by
  obtain ⟨A, n, c, rfl, _, h⟩ := h
  obtain ⟨A1, n1, c1, rfl, _, h1⟩ := h1
  have HL := Lib.hid h.len
  have HL1 := Lib.hid h1.Prooflen
  have hn : n ≤ 1048576 := by have := HL.out; unfold szIntS at hs; omega
  have hn1 : n1 ≤ 1048576 := by have := HL1.out; unfold szProofS at hs1; omega
  have H := Lib.hid h
  have H1 := Lib.hid h1
  clear h h1 hs hs1
  go_enter Try.func29, Try.ntmps29
  go_wp2_with fail
  refine (s_l15Keys _ _ _ _ _ H.out hn).mono ?_
  rintro e w' ⟨rfl, rfl⟩
  cases hk : keysB ks
  · have HF : Hid (false = egoodB ks ch l) := Lib.hid (by unfold egoodB; rw [hk]; rfl)
    go_wp2
    go_ret
    exact ⟨ret_bool HF.out, Below.refl _ _⟩
  go_wp2_with fail
  refine (s_NumOk _ _).mono ?_
  rintro e w' ⟨rfl, rfl⟩
  cases hc : numB ch
  · have HF : Hid (false = egoodB ks ch l) := Lib.hid (by unfold egoodB; rw [hk, hc]; rfl)
    go_wp2
    go_ret
    exact ⟨ret_bool HF.out, Below.refl _ _⟩
  by_cases hnn : n1 = n
  rotate_left
  · have e1 : ((n1 : Int) != (n : Int)) = true := by rw [bne_iff_ne]; omega
    have e2 : ¬ (n1 : Int) = (n : Int) := by omega
    have HF : Hid (false = egoodB ks ch l) := Lib.hid (by unfold egoodB; unfold goodsB; rw [HL.out, HL1.out]; simp [hnn])
    go_wp2
    go_ret
    exact ⟨ret_bool HF.out, Below.refl _ _⟩
  subst hnn
  have HC : Hid (egoodB ks ch l = (goodsK ks l n1 && decide (chalK l n1 = ch))) := Lib.hid (by unfold egoodB goodsB; rw [hk, hc, HL.out, HL1.out]; simp)
  clear hk hc
  go_wp2
  go_loopw [7] (fun i wr => ∃ k : Nat, k ≤ n1 ∧ i = .int .i64 k ∧ Hid (goodsK ks l k = true) ∧ Hid (Below w.heap.size w wr)) (fun i _ => n1 - (intOf i).toNat)
  case atStart => exact ⟨0, Nat.zero_le _, rfl, Lib.hid rfl, Lib.hid (Below.refl _ _)⟩
  case round =>
    obtain ⟨k, hk, rfl, HK, HB⟩ := hrel
    by_cases hlt : k < n1
    · obtain ⟨b, q, rfl, hbb, hcq, HQ⟩ := (H.out.below HB.out).intAt hlt
      obtain ⟨a, x, y, z, rfl, hab, hcx, hcy, hcz, HP⟩ := (H1.out.below HB.out).ProofAt hlt
      have i0 : (0 : Int) ≤ (k : Int) := by omega
      have i1 : (k : Int) < (n1 : Int) := by omega
      have HE : Hid (pfGood (ks.getD k 0) (l.getD k (0, 0, 0)) = goodB q x y z) := Lib.hid (by rw [← HQ.out, HP.out]; rfl)
      clear HQ HP
      go_wp2
      go_still_tail 8, (by kernel_rfl)
      change wpList _ _ _ _ _ wr.drew
      go_wp2_with fail
      refine (X_s_ProofGood q x y z wr.drew).mono ?_
      rintro e w2 ⟨rfl, hb2⟩
      have HB2 : Hid (Below w.heap.size w w2) := Lib.hid (HB.out.trans ((nb14 hb2).mono HB.out.size))
      clear hb2 HB hcq hcx hcy hcz
      cases hg : goodB q x y z
      · have HF : Hid (false = egoodB ks ch l) := Lib.hid (by rw [HC.out, goodsK_no hlt (by rw [HE.out, hg])]; rfl)
        go_wp2
        go_ret
        exact ⟨ret_bool HF.out, HB2.out⟩
      · have HK2 : Hid (goodsK ks l (k + 1) = true) := Lib.hid (by unfold goodsK; rw [HK.out, HE.out, hg]; rfl)
        clear HK
        go_wp2
        go_roundw
        case rel => exact ⟨k + 1, by omega, by go_num, HK2, HB2⟩
        case measure => simp [intOf] <;> omega
    · have HK2 : Hid (goodsK ks l n1 = true) := Lib.hid (by rw [show n1 = k by omega]; exact HK.out)
      have HF : Hid ((chalK l n1 == ch) = egoodB ks ch l) := Lib.hid (by rw [HC.out, HK2.out, Bool.eq_iff_iff]; simp)
      clear HK
      go_wp2_with fail
      refine (s_l15Chal _ _ _ w.heap.size l _ (H1.out.below HB.out) hn1 (chals_of HK2.out)).mono ?_
      rintro e w' ⟨rfl, rfl⟩
      go_wp2
      go_ret
      exact ⟨ret_bool HF.out, HB.out⟩

set_option maxHeartbeats 4000000 in
theorem X_i_EitherGood (v v1 : Value) (ks : List Int) (ch : Int) (l : List Pf) (w : World) (h : RdIntS w w.heap.size v ks) (h1 : RdProofS w w.heap.size v1 l) (hs : szIntS ks ≤ 1048576) (hs1 : szProofS l ≤ 1048576) :
    Calls Try.prog 27 #[v, .int .i64 ch, v1] w fun e w' => e = .returned (.bool (egoodB ks ch l)) ∧ Below w.heap.size w w' := by
  obtain ⟨A, n, c, rfl, _, h⟩ := h
  obtain ⟨A1, n1, c1, rfl, _, h1⟩ := h1
  have HL := Lib.hid h.len
  have HL1 := Lib.hid h1.Prooflen
  have hn : n ≤ 1048576 := by have := HL.out; unfold szIntS at hs; omega
  have hn1 : n1 ≤ 1048576 := by have := HL1.out; unfold szProofS at hs1; omega
  have H := Lib.hid h
  have H1 := Lib.hid h1
  clear h h1 hs hs1
  go_enter Try.func27, Try.ntmps27
  go_wp2_with fail
  refine (i_keysOk _ _ _ _ _ H.out hn).mono ?_
  rintro e w' ⟨rfl, rfl⟩
  cases hk : keysB ks
  · have HF : Hid (false = egoodB ks ch l) := Lib.hid (by unfold egoodB; rw [hk]; rfl)
    go_wp2
    go_ret
    exact ⟨ret_bool HF.out, Below.refl _ _⟩
  go_wp2_with fail
  refine (i_NumOk _ _).mono ?_
  rintro e w' ⟨rfl, rfl⟩
  cases hc : numB ch
  · have HF : Hid (false = egoodB ks ch l) := Lib.hid (by unfold egoodB; rw [hk, hc]; rfl)
    go_wp2
    go_ret
    exact ⟨ret_bool HF.out, Below.refl _ _⟩
  go_wp2_with fail
  refine (i_goods A n c ks A1 n1 c1 l w H.out H1.out hn hn1).mono ?_
  rintro e w1 ⟨rfl, hb⟩
  have HB := Lib.hid hb
  clear hb
  cases hg : goodsB ks l
  · have HF : Hid (false = egoodB ks ch l) := Lib.hid (by unfold egoodB; rw [hk, hc, hg]; rfl)
    go_wp2
    go_ret
    exact ⟨ret_bool HF.out, HB.out⟩
  have HG := Lib.hid (goodsB_len hg)
  have HF : Hid ((chalK l n1 == ch) = egoodB ks ch l) := Lib.hid (by unfold egoodB; rw [hk, hc, hg, HL1.out, Bool.eq_iff_iff]; simp)
  have HCH := Lib.hid (chals_of (by have := HG.out.2; rw [← HG.out.1, HL1.out] at this; exact this))
  clear hk hc hg
  go_wp2_with fail
  refine (i_chalOf_Proof A1 n1 c1 l w1 ((H1.out.below HB.out).more HB.out.size) hn1 HCH.out).mono ?_
  rintro e w2 ⟨rfl, hb⟩
  have HB2 : Hid (Below w.heap.size w w2) := Lib.hid (HB.out.trans (hb.mono HB.out.size))
  clear hb
  go_wp2
  go_ret
  exact ⟨ret_bool HF.out, HB2.out⟩

theorem ret_iib {a b a' b' : Int} {d d' : Bool} (h1 : a = a') (h2 : b = b') (h3 : d = d') : Ending.returned (.tuple #[.int .i64 a, .int .i64 b, .bool d]) = .returned (.tuple #[.int .i64 a', .int .i64 b', .bool d']) := by rw [h1, h2, h3]
theorem comsK_no {a b : List Pf} {n k : Nat} (hk : k < n) (h : (a.getD k (0, 0, 0)).1 ≠ (b.getD k (0, 0, 0)).1) : comsK a b n = false := by
  induction n with
  | zero => omega
  | succ n ih =>
    unfold comsK
    by_cases e : k = n
    · subst e; rw [decide_eq_false h, Bool.and_false]
    · rw [ih (by omega)]; rfl
theorem comsK_at {a b : List Pf} {n k : Nat} (h : comsK a b n = true) (hk : k < n) : (a.getD k (0, 0, 0)).1 = (b.getD k (0, 0, 0)).1 := by
  by_cases e : (a.getD k (0, 0, 0)).1 = (b.getD k (0, 0, 0)).1
  · exact e
  · rw [comsK_no hk e] at h; cases h
theorem esec_no {ks : List Int} {a b : List Pf} (h : esecB ks a b = false) : Hid (0 = esecI ks a b ∧ 0 = esecV ks a b ∧ false = esecB ks a b) := Lib.hid ⟨by unfold esecI; rw [h]; rfl, by unfold esecV; rw [h]; rfl, h.symm⟩
theorem esec_yes {ks : List Int} {a b : List Pf} {k : Nat} (hk : keysB ks = true) (ga : goodsB ks a = true) (gb : goodsB ks b = true) (hc : comsK a b ks.length = true) (hd : chalK a ks.length ≠ chalK b ks.length) (hp : diffP a b ks.length ks.length = k) (hlt : k < ks.length) :
    Hid ((k : Int) = esecI ks a b ∧ secI (a.getD k (0, 0, 0)) (b.getD k (0, 0, 0)) = esecV ks a b ∧ true = esecB ks a b) := Lib.hid (by
  have hb : esecB ks a b = true := by unfold esecB; rw [hk, ga, gb, hc, hp]; simp [hd, hlt]
  exact ⟨by unfold esecI; rw [if_pos hb, hp], by unfold esecV; rw [if_pos hb, hp], hb.symm⟩)
theorem esec_len {ks : List Int} {a b : List Pf} (h : a.length ≠ b.length) : esecB ks a b = false := by
  cases hb : esecB ks a b
  · rfl
  · exfalso
    simp only [esecB, Bool.and_eq_true] at hb
    have q1 := (goodsB_len hb.2.1).1
    have q2 := (goodsB_len hb.2.2.1).1
    omega
theorem esec_none {ks : List Int} {a b : List Pf} (hp : diffP a b ks.length ks.length = ks.length) : esecB ks a b = false := by unfold esecB; rw [hp]; simp
end Go.Proofs.Ytdhakbpimbadgaa

/- Chapter 5: SharesMend in the model. -/
import Derived.Test.YtjpjmlcmaombnaaWalk6c
namespace Go.Proofs.Ytjpjmlcmaombnaa
open Go.RowKit
set_option maxRecDepth 100000

def mendB (d : List Pt) (b : Int) : Bool := ptsB d && (decide (0 ≤ mostI d.length b) && xsK d 7 d.length)
def mendO (d : List Pt) (b : Int) : Option (List Int) := if mendB d b = true then sF d (b.toNat + 1) (mostI d.length b) d [] else none
def R_SharesMend_0 (d : List Pt) (b : Int) : Int := match mendO d b with | some p => atI p 0 | none => 0
def R_SharesMend_1 (d : List Pt) (b : Int) : List Int := match mendO d b with | some p => wrL p d | none => []
def R_SharesMend_2 (d : List Pt) (b : Int) : Bool := isB (mendO d b)
theorem mend_none {d : List Pt} {b : Int} (h : mendO d b = none) : Hid (R_SharesMend_0 d b = 0 ∧ R_SharesMend_1 d b = [] ∧ R_SharesMend_2 d b = false) := Lib.hid (by
  unfold R_SharesMend_0 R_SharesMend_1 R_SharesMend_2; rw [h]; exact ⟨rfl, rfl, rfl⟩)
theorem mend_some {d : List Pt} {b : Int} {p : List Int} (h : mendO d b = some p) : Hid (R_SharesMend_0 d b = atI p 0 ∧ R_SharesMend_1 d b = wrL p d ∧ R_SharesMend_2 d b = true) := Lib.hid (by
  unfold R_SharesMend_0 R_SharesMend_1 R_SharesMend_2; rw [h]; exact ⟨rfl, rfl, rfl⟩)
theorem mend_no {d : List Pt} {b : Int} (h : mendB d b = false) : mendO d b = none := by unfold mendO; rw [h]; rfl
theorem most_ge {n b : Int} (h : 0 ≤ mostI n b) : 1 ≤ n ∧ n ≤ 7 ∧ 0 ≤ b ∧ b < n := by
  by_cases hc : 1 ≤ n ∧ n ≤ 7 ∧ 0 ≤ b ∧ b < n
  · exact hc
  · rw [mostI_no hc] at h; omega
theorem most_lt {n b : Int} (h : 1 ≤ n ∧ n ≤ 7 ∧ 0 ≤ b ∧ b < n) : 0 ≤ mostI n b := by rw [mostI_yes h]; omega
theorem ret_ivb {a a' : Int} {v : Value} {c c' : Bool} (h1 : a = a') (h2 : c = c') : Ending.returned (.tuple #[.int .i64 a, v, .bool c]) = .returned (.tuple #[.int .i64 a', v, .bool c']) := by rw [h1, h2]

set_option maxHeartbeats 2000000 in
theorem X_s_SharesMend (v : Value) (d : List Pt) (b : Int) (w : World) (h : RdPointS w w.heap.size v d) (hs : szPointS d ≤ 1048576) :
    Calls Try.prog 23 #[v, .int .i64 b] w fun e w' => ∃ g, e = .returned (.tuple #[.int .i64 (R_SharesMend_0 d b), g, .bool (R_SharesMend_2 d b)]) ∧ OwIntS w' w.heap.size w'.heap.size g (R_SharesMend_1 d b) ∧ Below w.heap.size w w' := by
  obtain ⟨A, n, c, rfl, _, r⟩ := h
  have hn : n ≤ 1048576 := by have := r.plen; unfold szPointS at hs; omega
  have HDN := Lib.hid r.plen
  have H := Lib.hid r
  clear r hs
  cases hp : ptsB d
  · have HF := mend_none (mend_no (d := d) (b := b) (by unfold mendB; rw [hp]; rfl))
    go_enter Try.func23, Try.ntmps23
    go_wp2_with fail
    refine (s_l2Points _ _ _ _ _ H.out hn).mono ?_
    rintro e w1 ⟨rfl, hb⟩
    have HB : Hid (Below w.heap.size w w1) := Lib.hid (hb.below _)
    clear hb
    rw [hp]
    go_wp2
    go_ret3
    refine ⟨_, ret_ivb HF.out.1.symm HF.out.2.2.symm, ?_, HB.out⟩
    rw [HF.out.2.1]; exact OwIntS.nil_ _ _ _
  by_cases hm : 0 ≤ mostI n b
  · obtain ⟨n1, n7, b0, b1⟩ := most_ge hm
    obtain ⟨B, rfl⟩ := Int.eq_ofNat_of_zero_le b0
    have HGL : Hid (GL d) := Lib.hid (GL.of (by have := (shB_good HDN.out hp).1; rw [HDN.out]; exact this))
    have HMO : Hid (xsK d 7 n = true → mendO d B = sF d (B + 1) (mostI n B) d []) := Lib.hid (fun hx => by
      unfold mendO; rw [if_pos (by unfold mendB; rw [HDN.out, hp, hx, decide_eq_true hm]; rfl), HDN.out]; simp)
    have HXI : Hid (XIn d n) := Lib.hid (by have := HGL.out.good.x0; rw [HDN.out] at this; exact this)
    have hm2 : ¬ (mostI n B < 0) := by omega
    go_enter Try.func23, Try.ntmps23
    go_wp2_with fail
    refine (s_l2Points _ _ _ _ _ H.out hn).mono ?_
    rintro e w1 ⟨rfl, hb⟩
    have HB : Hid (Below w.heap.size w w1) := Lib.hid (hb.below _)
    have hz1 := HB.out.size
    have H1 : Hid (Rd w1 w1.heap.size 2 A n (cP d)) := Lib.hid ((H.out.below HB.out).more hz1)
    clear hb
    rw [hp]
    go_wp2_with fail
    refine (s_MendMost _ _ _).mono ?_
    rintro e w2 ⟨rfl, rfl⟩
    clear hp
    go_wp2
    go_loop [7] (fun i => ∃ k : Nat, k ≤ n ∧ i = .int .i64 k ∧ Hid (xsK d 7 k = true)) (fun i => n - (intOf i).toNat)
    case atStart => exact ⟨0, Nat.zero_le _, rfl, Lib.hid rfl⟩
    case round =>
      obtain ⟨k, hk, rfl, HK⟩ := hrel
      by_cases hlt : k < n
      · obtain ⟨a, x, y, rfl, hab, hx, hy, HP⟩ := H1.out.ptAt hlt
        have HXY := Lib.hid (pxy HP.out)
        have i0 : (0 : Int) ≤ (k : Int) := by omega
        have i1 : (k : Int) < (n : Int) := by omega
        cases hbx : inB x 1 7
        · have HF := mend_none (mend_no (d := d) (b := B) (by
            unfold mendB
            rw [HDN.out, xsK_bad (k := k) (n := n) (by rw [xsK, HXY.out.1]; unfold inB at hbx; rw [hbx]; simp) hlt]; simp))
          go_wp2_with fail
          refine (s_l6In _ _ _ _).mono ?_
          rintro e w2 ⟨rfl, rfl⟩
          rw [hbx]
          go_wp2
          go_ret3
          refine ⟨_, ret_ivb HF.out.1.symm HF.out.2.2.symm, ?_, HB.out⟩
          rw [HF.out.2.1]; exact OwIntS.nil_ _ _ _
        · have HK2 : Hid (xsK d 7 (k + 1) = true) := Lib.hid (by rw [xsK, HK.out, HXY.out.1]; unfold inB at hbx; rw [hbx]; rfl)
          go_wp2_with fail
          refine (s_l6In _ _ _ _).mono ?_
          rintro e w2 ⟨rfl, rfl⟩
          rw [hbx]
          go_wp2
          go_round
          case rel => exact ⟨k + 1, by omega, by go_num, HK2⟩
          case measure => simp [intOf] <;> omega
      · obtain rfl : n = k := by omega
        have HMS := Lib.hid (HMO.out HK.out)
        have hbn : B < n := by omega
        have hn7 : n ≤ 7 := by omega
        have HL0 : Hid (Rd (w1.alloc (.cells #[] 53)) (w1.alloc (.cells #[] 53)).heap.size 2 (some ⟨w1.heap.size, 0, none⟩) 0 (cP [])) := Lib.hid ⟨rfl, fun h => by omega⟩
        have HBa := Lib.hid ((Below.refl w1.heap.size w1).alloc (Nat.le_refl _) (.cells #[] 53))
        have HR1 := Lib.hid ((H1.out.below HBa.out).more HBa.out.size)
        clear HMO HK
        go_wp2_with fail
        refine (s_search A n c B d HDN.out hn7 HGL.out hbn n 0 0 [] (some ⟨w1.heap.size, 0, none⟩) 0 0 _ rfl (by omega) (by simpa using HGL.out) rfl (by omega) HR1.out HL0.out).mono ?_
        rintro e w2 ⟨v2, rfl, ho2, hb2⟩
        have z2 := hb2.size
        have HB2 : Hid (Below w.heap.size w w2) := Lib.hid (HB.out.trans ((HBa.out.trans (hb2.mono (by simp))).mono hz1))
        have HRD2 : Hid (Rd w2 w2.heap.size 2 A n (cP d)) := Lib.hid ((HR1.out.below hb2).more z2)
        simp only [List.drop_zero] at ho2
        have HOF := Lib.hid ho2
        have hz12 : w.heap.size ≤ (w1.alloc (.cells #[] 53)).heap.size := by simp; omega
        simp only [List.drop_zero]
        clear ho2 hb2
        cases hsf : sF d (B + 1) (mostI n B) d [] with
        | none =>
          have HF := mend_none (HMS.out.trans hsf)
          clear hsf
          go_wp2
          go_ret3
          refine ⟨_, ret_ivb HF.out.1.symm HF.out.2.2.symm, ?_, HB2.out⟩
          rw [HF.out.2.1]; exact OwIntS.nil_ _ _ _
        | some p =>
          have HF := mend_some (HMS.out.trans hsf)
          have ho := HOF.out p hsf
          obtain ⟨l, hpl, hll, hsub, _⟩ := sF_is _ _ _ hsf
          have HNP : Hid (Nums p) := Lib.hid (by rw [hpl]; exact thrL_nums l)
          have hpn : p.length ≤ 1048576 := by rw [hpl]; have := thrL_len l; omega
          obtain ⟨A2, n2, c2, rfl, hn2, hnc2, ho2⟩ := ho.open
          have HRP : Hid (Rd w2 w2.heap.size 1 A2 n2 (cI p)) := Lib.hid ho2.rd
          have hn2' : n2 ≤ 1048576 := by omega
          clear hsf HOF ho ho2 hpl hll hsub hn2 hnc2 hpn
          have hib : isB (some p) = true := rfl
          rw [hib]
          go_wp2_with fail
          refine (s_l2At _ _ _ _ _ _ HRP.out HNP.out hn2' (by omega) (by omega)).mono ?_
          rintro e w3 ⟨rfl, rfl⟩
          go_wp2_with fail
          refine (s_l5Wrong _ _ _ _ _ _ _ _ _ HRP.out HNP.out hn2' HRD2.out HXI.out hn).mono ?_
          rintro e w4 ⟨v4, rfl, ho4, hb4⟩
          have HO4 : Hid (OwIntS w4 w.heap.size w4.heap.size v4 (R_SharesMend_1 d B)) := Lib.hid (by
            rw [HF.out.2.1]; unfold wrL; rw [HDN.out]; exact ho4.widen (by omega) (Nat.le_refl _))
          have HB4 := Lib.hid (HB2.out.trans (hb4.mono HB2.out.size))
          clear ho4 hb4
          go_wp2
          go_ret3
          exact ⟨_, ret_ivb HF.out.1.symm HF.out.2.2.symm, HO4.out, HB4.out⟩
  · have HF := mend_none (mend_no (d := d) (b := b) (by unfold mendB; rw [HDN.out, decide_eq_false hm]; simp))
    have hm2 : mostI n b < 0 := by omega
    go_enter Try.func23, Try.ntmps23
    go_wp2_with fail
    refine (s_l2Points _ _ _ _ _ H.out hn).mono ?_
    rintro e w1 ⟨rfl, hb⟩
    have HB : Hid (Below w.heap.size w w1) := Lib.hid (hb.below _)
    clear hb
    rw [hp]
    go_wp2_with fail
    refine (s_MendMost _ _ _).mono ?_
    rintro e w2 ⟨rfl, rfl⟩
    go_wp2
    go_ret3
    refine ⟨_, ret_ivb HF.out.1.symm HF.out.2.2.symm, ?_, HB.out⟩
    rw [HF.out.2.1]; exact OwIntS.nil_ _ _ _
end Go.Proofs.Ytjpjmlcmaombnaa

/- Chapter 2: the polynomial through points, the model's way. Made by gen2n.py. -/
import Derived.Test.YtbnobkojkfmccaaWalk2m
namespace Go.Proofs.Ytbnobkojkfmccaa
open Go.RowKit
set_option maxRecDepth 100000

theorem OwIntS.nc {w : World} {lo hi n c : Nat} {A : Option Addr} {d : List Int} (h : OwIntS w lo hi (.slice A n c) d) : n ≤ c ∧ n = d.length := by
  obtain ⟨_, A', n', c', e, r⟩ := h
  injection e with e1 e2 e3
  subst e1; subst e2; subst e3
  exact ⟨r.2.1, r.len.symm⟩
theorem nums_trim2 {a b : Int} (h0 : 0 ≤ a) (h1 : a ≤ 112) (h2 : 0 ≤ b) (h3 : b ≤ 112) : Nums (trimL [a, b]) := nums_trim (nums_two h0 h1 h2 h3)
theorem trim2_len (a b : Int) : (trimL [a, b]).length ≤ 2 := trimL_len _

set_option maxHeartbeats 8000000 in
theorem s_l2Through (A : Option Addr) (n c : Nat) (ps : List (Int × Int)) (w : World) (h : Rd w w.heap.size 2 A n (cP ps)) (hn : n ≤ 20) (hg : Good ps n) :
    Calls Try.prog 76 #[.slice A n c] w fun e w' => ∃ v, e = .returned v ∧ OwIntS w' w.heap.size w'.heap.size v (thrS ps n n) ∧ Below w.heap.size w w' := by
  have hlen := Lib.hid h.plen
  have H := Lib.hid h
  have HG := Lib.hid hg
  clear h hg
  have HW : Hid (Below w.heap.size w (w.alloc (.cells #[] 3))) := Lib.hid ((Below.refl _ _).alloc (Nat.le_refl _) _)
  have HO0 : Hid (OwIntS (w.alloc (.cells #[] 3)) w.heap.size (w.alloc (.cells #[] 3)).heap.size (.slice (some ⟨w.heap.size, 0, none⟩) 0 0) []) := Lib.hid ⟨by simp, _, _, _, rfl, by simp [cI], Nat.le_refl _, .inl rfl⟩
  go_enter Try.func76, Try.ntmps76
  go_wp2
  go_loopw [3, 4, 5, 6, 7] (fun o i _ _ _ wr => ∃ k : Nat, k ≤ n ∧ i = .int .i64 k ∧ Hid (OwIntS wr w.heap.size wr.heap.size o (thrS ps n k)) ∧ Hid (Below w.heap.size w wr)) (fun _ i _ _ _ _ => n - (intOf i).toNat)
  case atStart => exact ⟨0, Nat.zero_le _, rfl, HO0, HW⟩
  case round =>
    clear HO0 HW
    obtain ⟨i, hi, rfl, HO, HB⟩ := hrel
    obtain ⟨Ao, no, co, rfl, hno, _, _⟩ := HO.out.open
    have no1 : no ≤ n := by rw [hno]; exact thrS_len ps n i hi
    clear hno
    by_cases hlt : i < n
    · obtain ⟨a, x, y, rfl, hab, hx0, hy0, HXY0⟩ := H.out.ptAt hlt
      have hy := (HB.out.cell (p := ⟨(a.add (i * 2)).block, (a.add (i * 2)).off + 1, none⟩) (by rw [add_block]; exact hab)).trans hy0
      have HXY := Lib.hid (pxy HXY0.out)
      have Hx0 := Lib.hid hx0
      have x0 : 0 ≤ x := by rw [← HXY.out.1]; exact (HG.out.x0 i hlt).1
      have x1 : x ≤ 112 := by rw [← HXY.out.1]; exact (HG.out.x0 i hlt).2
      clear hx0 hy0 HXY0
      go_wp2
      clear hy
      obtain ⟨wo, hwo⟩ : ∃ wo, wo = wr.alloc (.cells #[.int .i64 y] 3) := ⟨_, rfl⟩
      have hB1 : Below wr.heap.size wr wo := by rw [hwo]; exact (Below.refl _ _).alloc (Nat.le_refl _) _
      have zo := hB1.size
      have HP0 : Hid (OwIntS wo w.heap.size wo.heap.size (.slice (some ⟨wr.heap.size, 0, none⟩) 1 1) (lagK ps i 0)) := Lib.hid (by
        rw [hwo, lagK, HXY.out.2]; exact (lit_own wr [y] 1 rfl (by omega)).widen HB.out.size (by simp))
      have HO1 : Hid (OwIntS wo w.heap.size wo.heap.size (.slice Ao no co) (thrS ps n i)) := Lib.hid ((HO.out.below hB1 (Nat.le_refl _)).widen (Nat.le_refl _) zo)
      have HB1 : Hid (Below w.heap.size w wo) := Lib.hid (HB.out.trans (hB1.mono HB.out.size))
      rw [← hwo]
      clear hwo hB1 zo HO HB
      go_loopw [5, 6, 7] (fun p kk _ wr => ∃ k : Nat, k ≤ n ∧ kk = .int .i64 k ∧ Hid (OwIntS wr w.heap.size wr.heap.size p (lagK ps i k)) ∧ Hid (OwIntS wr w.heap.size wr.heap.size (.slice Ao no co) (thrS ps n i)) ∧ Hid (Below w.heap.size w wr)) (fun _ kk _ _ => n - (intOf kk).toNat)
      case atStart => exact ⟨0, Nat.zero_le _, rfl, HP0, HO1, HB1⟩
      case round =>
        clear HP0 HO1 HB1
        obtain ⟨k, hk, rfl, HP, HO, HB⟩ := hrel
        obtain ⟨Ap, np, cp, rfl, hnp, _, _⟩ := HP.out.open
        have np1 : np ≤ k + 1 := by rw [hnp]; exact (lagK_len ps i k).1
        clear hnp
        by_cases hlt2 : k < n
        · by_cases hki : k = i
          · have hb : ((k : Int) != (i : Int)) = false := by rw [hki]; simp
            have HP2 : Hid (OwIntS wr w.heap.size wr.heap.size (.slice Ap np cp) (lagK ps i (k + 1))) := Lib.hid (by rw [lagK, if_pos hki]; exact HP.out)
            clear hki HP
            go_wp2
            go_roundw
            case rel => exact ⟨k + 1, by omega, by go_num, HP2, HO, HB⟩
            case measure => simp [intOf] <;> omega
          · have hb : ((k : Int) != (i : Int)) = true := by rw [bne_iff_ne]; omega
            have Hki := Lib.hid hki
            clear hki
            obtain ⟨a2, x', y', ha2, hab2, hx0', _, HXY'⟩ := H.out.ptAt hlt2
            obtain rfl : a = a2 := by injection ha2
            have hx := (HB.out.cell (p := a.add (i * 2)) (by rw [add_block]; exact hab)).trans Hx0.out
            have hx' := (HB.out.cell (p := a.add (k * 2)) (by rw [add_block]; exact hab)).trans hx0'
            have HX' := Lib.hid (pxy HXY'.out).1
            have x0' : 0 ≤ x' := by rw [← HX'.out]; exact (HG.out.x0 k hlt2).1
            have x1' : x' ≤ 112 := by rw [← HX'.out]; exact (HG.out.x0 k hlt2).2
            have Hx0' := Lib.hid hx0'
            clear hx0' ha2 HXY'
            obtain ⟨dd, hd⟩ : ∃ dd, dd = (x - x') % 113 := ⟨_, rfl⟩
            have d0 : 1 ≤ dd := by
              have h1 := HG.out.mod hlt hlt2 (fun e => Hki.out e.symm)
              rw [HXY.out.1, HX'.out] at h1
              omega
            have d1 : dd ≤ 112 := by omega
            have Hd := Lib.hid hd
            have hsub := fun q => s_l1Sub x x' (wr.drewN q) x0 x1 x0' x1'
            rw [← hd] at hsub
            have Hsub := Lib.hid hsub
            clear hd hsub
            obtain ⟨v, hv⟩ : ∃ v, v = powI dd 111 113 := ⟨_, rfl⟩
            have v0 : 0 ≤ v := by rw [hv]; exact powI_lo _ _ _
            have v1 : v ≤ 112 := by rw [hv]; exact powI_hi _ _ _ (by omega)
            have Hv := Lib.hid hv
            have hinv := fun q => s_l1Inv dd (wr.drewN q) d0 d1
            rw [← hv] at hinv
            have Hinv := Lib.hid hinv
            clear hv hinv
            have i0 : (0 : Int) ≤ (i : Int) := by omega
            have i1 : (i : Int) < (n : Int) := by omega
            have i2 : (0 : Int) ≤ (k : Int) := by omega
            have i3 : (k : Int) < (n : Int) := by omega
            go_wp2
            go_quiet ((first | (go_at_call 59; exact quiet_drewN (Hsub.out _)) | (go_at_call 92; exact quiet_drewN (Hinv.out _))))
            clear Hsub Hinv hx hx'
            obtain ⟨wb, hwb⟩ : ∃ wb, wb = wr.drewN nq := ⟨_, rfl⟩
            have hS : Still wr wb := ⟨nq, hwb⟩
            have HPb : Hid (OwIntS wb w.heap.size wb.heap.size (.slice Ap np cp) (lagK ps i k)) := Lib.hid (by rw [hS.sz]; exact HP.out.below (hS.below _) (Nat.le_refl _))
            have HOb : Hid (OwIntS wb w.heap.size wb.heap.size (.slice Ao no co) (thrS ps n i)) := Lib.hid (by rw [hS.sz]; exact HO.out.below (hS.below _) (Nat.le_refl _))
            have HBb : Hid (Below w.heap.size w wb) := Lib.hid (HB.out.trans (hS.below _))
            have hx' := (HBb.out.cell (p := a.add (k * 2)) (by rw [add_block]; exact hab)).trans Hx0'.out
            rw [← hwb]
            clear hwb hS HP HO HB
            go_wp2_with fail
            refine (s_l1Sub 0 _ _ (by omega) (by omega) x0' x1').mono ?_
            rintro e w' ⟨rfl, rfl⟩
            clear hx'
            obtain ⟨u, hu⟩ : ∃ u, u = (0 - x') % 113 := ⟨_, rfl⟩
            have u0 : 0 ≤ u := by omega
            have u1 : u ≤ 112 := by omega
            have Hu := Lib.hid hu
            rw [← hu]
            clear hu
            obtain ⟨p0, p1⟩ := mul_bd u v u0 u1 v0 v1
            go_wp2_with fail
            obtain ⟨t, ht⟩ : ∃ t, t = u * v % 113 := ⟨_, rfl⟩
            have t0 : 0 ≤ t := by omega
            have t1 : t ≤ 112 := by omega
            have Ht := Lib.hid ht
            rw [← ht]
            clear ht
            obtain ⟨we, hwe⟩ : ∃ we, we = wb.alloc (.cells #[.int .i64 t, .int .i64 v] 3) := ⟨_, rfl⟩
            have hB1 : Below wb.heap.size wb we := by rw [hwe]; exact (Below.refl _ _).alloc (Nat.le_refl _) _
            have ze := hB1.size
            have HLe : Hid (OwIntS we wb.heap.size we.heap.size (.slice (some ⟨wb.heap.size, 0, none⟩) 2 2) [t, v]) := Lib.hid (by rw [hwe]; exact (lit_own wb [t, v] 2 rfl (by omega)).widen (Nat.le_refl _) (by simp))
            have HPe : Hid (OwIntS we w.heap.size we.heap.size (.slice Ap np cp) (lagK ps i k)) := Lib.hid ((HPb.out.below hB1 (Nat.le_refl _)).widen (Nat.le_refl _) ze)
            have HOe : Hid (OwIntS we w.heap.size we.heap.size (.slice Ao no co) (thrS ps n i)) := Lib.hid ((HOb.out.below hB1 (Nat.le_refl _)).widen (Nat.le_refl _) ze)
            have HBe : Hid (Below w.heap.size w we) := Lib.hid (HBb.out.trans (hB1.mono HBb.out.size))
            rw [← hwe]
            clear hwe hB1 ze HPb HOb HBb
            refine (s_l2Trim _ _ _ _ _ (OwIntS.rdw HLe.out) (Nat.le_refl _) (by omega)).mono ?_
            rintro e wf ⟨vt, rfl, ho, hb⟩
            have zf := hb.size
            obtain ⟨At, nt, ct, rfl, hnt, _, _⟩ := ho.open
            have nt1 : nt ≤ 2 := by rw [hnt]; exact trim2_len _ _
            have HTf : Hid (OwIntS wf w.heap.size wf.heap.size (.slice At nt ct) (trimL [t, v])) := Lib.hid (ho.widen HBe.out.size (Nat.le_refl _))
            have HPf : Hid (OwIntS wf w.heap.size wf.heap.size (.slice Ap np cp) (lagK ps i k)) := Lib.hid ((HPe.out.below hb (Nat.le_refl _)).widen (Nat.le_refl _) zf)
            have HOf : Hid (OwIntS wf w.heap.size wf.heap.size (.slice Ao no co) (thrS ps n i)) := Lib.hid ((HOe.out.below hb (Nat.le_refl _)).widen (Nat.le_refl _) zf)
            have HBf : Hid (Below w.heap.size w wf) := Lib.hid (HBe.out.trans (hb.mono HBe.out.size))
            clear ho hb zf HPe HOe HBe HLe hnt
            go_wp2_with fail
            refine (s_l2Mul _ _ _ _ _ _ _ _ _ (OwIntS.rdw HPf.out) (OwIntS.rdw HTf.out) (lagK_nums HG.out hlt k) (nums_trim2 t0 t1 v0 v1) (by omega) (by omega)).mono ?_
            rintro e wg ⟨vp, rfl, ho, hb⟩
            have zg := hb.size
            have HPg : Hid (OwIntS wg w.heap.size wg.heap.size vp (lagK ps i (k + 1))) := Lib.hid (by
              rw [lagK, if_neg Hki.out, HXY.out.1, HX'.out, ← Hd.out, ← Hv.out, ← Hu.out, ← Ht.out]
              exact ho.widen HBf.out.size (Nat.le_refl _))
            have HOg : Hid (OwIntS wg w.heap.size wg.heap.size (.slice Ao no co) (thrS ps n i)) := Lib.hid ((HOf.out.below hb (Nat.le_refl _)).widen (Nat.le_refl _) zg)
            have HBg : Hid (Below w.heap.size w wg) := Lib.hid (HBf.out.trans (hb.mono HBf.out.size))
            clear ho hb zg HPf HTf HOf HBf
            go_wp2
            go_roundw
            case rel => exact ⟨k + 1, by omega, by go_num, HPg, HOg, HBg⟩
            case measure => simp [intOf] <;> omega
        · have hkn : k = n := by omega
          have HP2 : Hid (OwIntS wr w.heap.size wr.heap.size (.slice Ap np cp) (lagK ps i n)) := Lib.hid (by rw [← hkn]; exact HP.out)
          clear HP hkn
          have hnc := HP2.out.nc.1
          go_wp2_with fail
          refine (s_l2Trim _ _ _ _ _ (OwIntS.rdw HP2.out) hnc (by omega)).mono ?_
          rintro e wf ⟨vt, rfl, ho, hb⟩
          have zf := hb.size
          obtain ⟨At, nt, ct, rfl, hnt, _, _⟩ := ho.open
          have nt1 : nt ≤ n + 1 := by rw [hnt]; have := trimL_len (lagK ps i n); have := (lagK_len ps i n).1; omega
          have HTf : Hid (OwIntS wf w.heap.size wf.heap.size (.slice At nt ct) (trimL (lagK ps i n))) := Lib.hid (ho.widen HB.out.size (Nat.le_refl _))
          have HOf : Hid (OwIntS wf w.heap.size wf.heap.size (.slice Ao no co) (thrS ps n i)) := Lib.hid ((HO.out.below hb (Nat.le_refl _)).widen (Nat.le_refl _) zf)
          have HBf : Hid (Below w.heap.size w wf) := Lib.hid (HB.out.trans (hb.mono HB.out.size))
          clear ho hb zf HP2 HO HB hnt hnc
          go_wp2_with fail
          refine (s_l2Add _ _ _ _ _ _ _ _ _ (OwIntS.rdw HOf.out) (OwIntS.rdw HTf.out) (thrS_nums ps n i) (nums_trim (lagK_nums HG.out hlt n)) (by omega) (by omega)).mono ?_
          rintro e wg ⟨vo, rfl, ho, hb⟩
          have HOg : Hid (OwIntS wg w.heap.size wg.heap.size vo (thrS ps n (i + 1))) := Lib.hid (by
            rw [thrS]; exact ho.widen HBf.out.size (Nat.le_refl _))
          have HBg : Hid (Below w.heap.size w wg) := Lib.hid (HBf.out.trans (hb.mono HBf.out.size))
          clear ho hb HTf HOf HBf
          go_wp2
          go_roundw
          case rel => exact ⟨i + 1, by omega, by go_num, HOg, HBg⟩
          case measure => simp [intOf] <;> omega
    · have hkn : i = n := by omega
      have HO2 : Hid (OwIntS wr w.heap.size wr.heap.size (.slice Ao no co) (thrS ps n n)) := Lib.hid (by have := HO.out; rw [hkn] at this; exact this)
      clear HO hkn
      go_wp2
      go_ret
      exact ⟨_, rfl, HO2.out, HB.out⟩
end Go.Proofs.Ytbnobkojkfmccaa

/- Chapter 2: the polynomial through points, the program's way. -/
import Derived.Test.YtpaaimmakkfbkaaWalk2l
namespace Go.Proofs.Ytpaaimmakkfbkaa
open Go.RowKit
set_option maxRecDepth 100000

theorem quiet_still {P : Program} {f : FuncId} {args : Array Value} {w : World} {a : Nat} {v : Value} (h : Calls P f args (w.drewN a) fun e w' => e = .returned v ∧ Still (w.drewN a) w') : Calls P f args (w.drewN a) fun e w'' => e = .returned v ∧ ∃ m, w'' = w.drewN m :=
  h.mono fun _ _ ⟨he, d, hd⟩ => ⟨he, a + d, by rw [hd, World.drewN_drewN]⟩
/-- an owned list opened -/
theorem OwIntS.open {w : World} {lo hi : Nat} {v : Value} {d : List Int} (h : OwIntS w lo hi v d) : ∃ A n c, v = .slice A n c ∧ n = d.length ∧ n ≤ c ∧ Ow w lo hi 3 1 A n c (cI d) := by
  obtain ⟨_, A, n, c, rfl, r⟩ := h
  exact ⟨A, n, c, rfl, r.len.symm, r.2.1, r⟩
theorem OwIntS.rdw {w : World} {lo : Nat} {A : Option Addr} {n c : Nat} {d : List Int} (h : OwIntS w lo w.heap.size (.slice A n c) d) : Rd w w.heap.size 1 A n (cI d) := by
  obtain ⟨_, A', n', c', e, r⟩ := h
  injection e with e1 e2 e3
  subst e1; subst e2; subst e3
  exact r.rd
theorem lit_own (w : World) (xs : List Int) (n : Nat) (h : xs.length = n) (hn : n ≤ 1048576) : OwIntS (w.alloc (.cells (cI xs).toArray 3)) w.heap.size (w.heap.size + 1) (.slice (some ⟨w.heap.size, 0, none⟩) n n) xs := by
  have := Ow.new w (cI xs).toArray 3 1 n (by simp [cI_length, h])
  exact ⟨by omega, _, _, _, rfl, by simpa using this⟩

set_option maxHeartbeats 4000000 in
theorem i_through (A : Option Addr) (n c : Nat) (ps : List (Int × Int)) (w : World) (h : Rd w w.heap.size 2 A n (cP ps)) (hn : n ≤ 20) (hg : Good ps n) :
    Calls Try.prog 32 #[.slice A n c] w fun e w' => ∃ v, e = .returned v ∧ OwIntS w' w.heap.size w'.heap.size v (thrI ps n).1 ∧ Below w.heap.size w w' := by
  have hlen := Lib.hid h.plen
  have H := Lib.hid h
  have HG := Lib.hid hg
  clear h hg
  have HW : Hid (Below w.heap.size w ((w.alloc (.cells #[] 3)).alloc (.cells #[.int .i64 1] 3))) := Lib.hid (((Below.refl _ _).alloc (Nat.le_refl _) _).alloc (by simp) _)
  have HO0 : Hid (OwIntS ((w.alloc (.cells #[] 3)).alloc (.cells #[.int .i64 1] 3)) w.heap.size ((w.alloc (.cells #[] 3)).alloc (.cells #[.int .i64 1] 3)).heap.size (.slice (some ⟨w.heap.size, 0, none⟩) 0 0) []) := Lib.hid ⟨by simp, _, _, _, rfl, by simp [cI], Nat.le_refl _, .inl rfl⟩
  have HZ0 : Hid (OwIntS ((w.alloc (.cells #[] 3)).alloc (.cells #[.int .i64 1] 3)) w.heap.size ((w.alloc (.cells #[] 3)).alloc (.cells #[.int .i64 1] 3)).heap.size (.slice (some ⟨w.heap.size + 1, 0, none⟩) 1 1) [1]) := Lib.hid (by
    have := lit_own (w.alloc (.cells #[] 3)) [1] 1 rfl (by omega)
    simp only [World.size_alloc] at this ⊢
    exact this.widen (by omega) (by omega))
  go_enter Try.func32, Try.ntmps32
  go_wp2
  go_loopw [3, 4, 13] (fun p z i wr => ∃ k : Nat, k ≤ n ∧ i = .int .i64 k ∧ Hid (OwIntS wr w.heap.size wr.heap.size p (thrI ps k).1) ∧ Hid (OwIntS wr w.heap.size wr.heap.size z (thrI ps k).2) ∧ Hid (Below w.heap.size w wr)) (fun _ _ i _ => n - (intOf i).toNat)
  case atStart => exact ⟨0, Nat.zero_le _, rfl, HO0, HZ0, HW⟩
  case round =>
    clear HO0 HZ0 HW
    obtain ⟨k, hk, rfl, HP, HZ, HB⟩ := hrel
    obtain ⟨Ap, np, cp, rfl, hnp, _, _⟩ := HP.out.open
    obtain ⟨Az, nz, cz, rfl, hnz, _, _⟩ := HZ.out.open
    have np1 : np ≤ k := by rw [hnp]; exact (thrI_len ps k).1
    have nz1 : nz ≤ k + 1 := by rw [hnz]; exact (thrI_len ps k).2
    clear hnp hnz
    by_cases hlt : k < n
    · obtain ⟨a, x, y, rfl, hab, hx0, hy0, HXY0⟩ := H.out.ptAt hlt
      have hx := (HB.out.cell (p := a.add (k * 2)) (by rw [add_block]; exact hab)).trans hx0
      have hy := (HB.out.cell (p := ⟨(a.add (k * 2)).block, (a.add (k * 2)).off + 1, none⟩) (by rw [add_block]; exact hab)).trans hy0
      have HXY := Lib.hid (pxy HXY0.out)
      have x0 : 0 ≤ x := by rw [← HXY.out.1]; exact (HG.out.x0 k hlt).1
      have x1 : x ≤ 112 := by rw [← HXY.out.1]; exact (HG.out.x0 k hlt).2
      have y0 : 0 ≤ y := by rw [← HXY.out.2]; exact (HG.out.y0 k hlt).1
      have y1 : y ≤ 112 := by rw [← HXY.out.2]; exact (HG.out.y0 k hlt).2
      clear hx0 hy0 HXY0
      go_wp2
      obtain ⟨wa, hwa⟩ : ∃ wa, wa = wr.alloc (.cells #[.int .i64 x, .int .i64 y] 46) := ⟨_, rfl⟩
      have hB1 : Below wr.heap.size wr wa := by rw [hwa]; exact (Below.refl _ _).alloc (Nat.le_refl _) _
      have za := hB1.size
      have hya : wa.cell? ⟨wr.heap.size, 1, none⟩ = some (.int .i64 y) := by rw [hwa]; simp
      have HPa : Hid (OwIntS wa w.heap.size wa.heap.size (.slice Ap np cp) (thrI ps k).1) := Lib.hid ((HP.out.below hB1 (Nat.le_refl _)).widen (Nat.le_refl _) za)
      have HZa : Hid (OwIntS wa w.heap.size wa.heap.size (.slice Az nz cz) (thrI ps k).2) := Lib.hid ((HZ.out.below hB1 (Nat.le_refl _)).widen (Nat.le_refl _) za)
      have HBa : Hid (Below w.heap.size w wa) := Lib.hid (HB.out.trans (hB1.mono HB.out.size))
      rw [← hwa]
      clear hwa hB1 za HP HZ HB hx hy
      obtain ⟨v, hv⟩ : ∃ v, v = atI (thrI ps k).1 x := ⟨_, rfl⟩
      have v0 : 0 ≤ v := by rw [hv]; exact atI_lo _ _
      have v1 : v ≤ 112 := by rw [hv]; exact atI_hi _ _
      have Hv := Lib.hid hv
      have hat := fun q => i_polynomial_at Ap np cp (thrI ps k).1 x (wa.drewN q) (OwIntS.rdw HPa.out) (thrI_nums ps k).1 (by omega) x0 x1
      rw [← hv] at hat
      have Hat := Lib.hid hat
      clear hv hat
      go_quiet ((first | (go_at_call 29; exact quiet_still (Hat.out _)) | (go_at_call 38; exact quiet_drewN (i_minus _ _ _ y0 y1 v0 v1))))
      clear Hat hya
      obtain ⟨wb, hwb⟩ : ∃ wb, wb = wa.drewN nq := ⟨_, rfl⟩
      have hS : Still wa wb := ⟨nq, hwb⟩
      have HPb : Hid (OwIntS wb w.heap.size wb.heap.size (.slice Ap np cp) (thrI ps k).1) := Lib.hid (by rw [hS.sz]; exact HPa.out.below (hS.below _) (Nat.le_refl _))
      have HZb : Hid (OwIntS wb w.heap.size wb.heap.size (.slice Az nz cz) (thrI ps k).2) := Lib.hid (by rw [hS.sz]; exact HZa.out.below (hS.below _) (Nat.le_refl _))
      have HBb : Hid (Below w.heap.size w wb) := Lib.hid (HBa.out.trans (hS.below _))
      rw [← hwb]
      clear hwb hS HPa HZa HBa
      obtain ⟨m, hm⟩ : ∃ m, m = (y - v) % 113 := ⟨_, rfl⟩
      have m0 : 0 ≤ m := by omega
      have m1 : m ≤ 112 := by omega
      have Hm := Lib.hid hm
      rw [← hm]
      clear hm
      go_wp2_with fail
      refine (i_polynomial_at _ _ _ (thrI ps k).2 _ _ (OwIntS.rdw HZb.out) (thrI_nums ps k).2 (by omega) x0 x1).mono ?_
      rintro e wc ⟨rfl, hS⟩
      have HPc : Hid (OwIntS wc w.heap.size wc.heap.size (.slice Ap np cp) (thrI ps k).1) := Lib.hid (by rw [hS.sz]; exact HPb.out.below (hS.below _) (Nat.le_refl _))
      have HZc : Hid (OwIntS wc w.heap.size wc.heap.size (.slice Az nz cz) (thrI ps k).2) := Lib.hid (by rw [hS.sz]; exact HZb.out.below (hS.below _) (Nat.le_refl _))
      have HBc : Hid (Below w.heap.size w wc) := Lib.hid (HBb.out.trans (hS.below _))
      clear hS HPb HZb HBb
      obtain ⟨z, hz⟩ : ∃ z, z = atI (thrI ps k).2 x := ⟨_, rfl⟩
      have z0 : 0 ≤ z := by rw [hz]; exact atI_lo _ _
      have z1 : z ≤ 112 := by rw [hz]; exact atI_hi _ _
      have Hz := Lib.hid hz
      rw [← hz]
      clear hz
      go_wp2_with fail
      refine (i_inverse _ _ z0 z1).mono ?_
      rintro e w' ⟨rfl, rfl⟩
      obtain ⟨i, hi⟩ : ∃ i, i = powI z 111 113 := ⟨_, rfl⟩
      have i0 : 0 ≤ i := by rw [hi]; exact powI_lo _ _ _
      have i1 : i ≤ 112 := by rw [hi]; exact powI_hi _ _ _ (by omega)
      have Hi := Lib.hid hi
      rw [← hi]
      clear hi
      go_wp2_with fail
      refine (i_times _ _ _ m0 m1 i0 i1).mono ?_
      rintro e w' ⟨rfl, rfl⟩
      obtain ⟨t, ht⟩ : ∃ t, t = m * i % 113 := ⟨_, rfl⟩
      have t0 : 0 ≤ t := by omega
      have t1 : t ≤ 112 := by omega
      have Ht := Lib.hid ht
      rw [← ht]
      clear ht
      go_wp2_with fail
      refine (i_plusTimes _ _ _ _ _ _ _ _ _ _ (OwIntS.rdw HPc.out) (OwIntS.rdw HZc.out) (thrI_nums ps k).1 (thrI_nums ps k).2 (by omega) (by omega) t0 t1).mono ?_
      rintro e wd ⟨pn, rfl, ho, hb⟩
      have zd := hb.size
      have HPd : Hid (OwIntS wd w.heap.size wd.heap.size pn (thrI ps (k + 1)).1) := Lib.hid (by
        simp only [thrI]; rw [HXY.out.1, HXY.out.2, ← Hv.out, ← Hz.out, ← Hm.out, ← Hi.out, ← Ht.out]
        exact ho.widen HBc.out.size (Nat.le_refl _))
      have HZd : Hid (OwIntS wd w.heap.size wd.heap.size (.slice Az nz cz) (thrI ps k).2) := Lib.hid ((HZc.out.below hb (Nat.le_refl _)).widen (Nat.le_refl _) zd)
      have HBd : Hid (Below w.heap.size w wd) := Lib.hid (HBc.out.trans (hb.mono HBc.out.size))
      clear ho hb zd HPc HZc HBc Hv Hz Hm Hi Ht
      go_wp2_with fail
      refine (i_minus 0 _ _ (by omega) (by omega) x0 x1).mono ?_
      rintro e w' ⟨rfl, rfl⟩
      obtain ⟨u, hu⟩ : ∃ u, u = (0 - x) % 113 := ⟨_, rfl⟩
      have u0 : 0 ≤ u := by omega
      have u1 : u ≤ 112 := by omega
      have Hu := Lib.hid hu
      rw [← hu]
      clear hu
      go_wp2_with fail
      obtain ⟨we, hwe⟩ : ∃ we, we = wd.alloc (.cells #[.int .i64 u, .int .i64 1] 3) := ⟨_, rfl⟩
      have hB1 : Below wd.heap.size wd we := by rw [hwe]; exact (Below.refl _ _).alloc (Nat.le_refl _) _
      have ze := hB1.size
      have HLe : Hid (OwIntS we wd.heap.size we.heap.size (.slice (some ⟨wd.heap.size, 0, none⟩) 2 2) [u, 1]) := Lib.hid (by rw [hwe]; exact (lit_own wd [u, 1] 2 rfl (by omega)).widen (Nat.le_refl _) (by simp))
      have HPe : Hid (OwIntS we w.heap.size we.heap.size pn (thrI ps (k + 1)).1) := Lib.hid ((HPd.out.below hB1 (Nat.le_refl _)).widen (Nat.le_refl _) ze)
      have HZe : Hid (OwIntS we w.heap.size we.heap.size (.slice Az nz cz) (thrI ps k).2) := Lib.hid ((HZd.out.below hB1 (Nat.le_refl _)).widen (Nat.le_refl _) ze)
      have HBe : Hid (Below w.heap.size w we) := Lib.hid (HBd.out.trans (hB1.mono HBd.out.size))
      rw [← hwe]
      clear hwe hB1 ze HPd HZd HBd
      refine (i_polynomial_times _ _ _ _ _ _ _ _ _ (OwIntS.rdw HZe.out) (OwIntS.rdw HLe.out) (thrI_nums ps k).2 (nums_two u0 u1 (by omega) (by omega)) (by omega) (by omega)).mono ?_
      rintro e wf ⟨zn, rfl, ho, hb⟩
      have zf := hb.size
      have HZf : Hid (OwIntS wf w.heap.size wf.heap.size zn (thrI ps (k + 1)).2) := Lib.hid (by
        simp only [thrI]; rw [HXY.out.1, ← Hu.out]
        exact ho.widen HBe.out.size (Nat.le_refl _))
      have HPf : Hid (OwIntS wf w.heap.size wf.heap.size pn (thrI ps (k + 1)).1) := Lib.hid ((HPe.out.below hb (Nat.le_refl _)).widen (Nat.le_refl _) zf)
      have HBf : Hid (Below w.heap.size w wf) := Lib.hid (HBe.out.trans (hb.mono HBe.out.size))
      clear ho hb zf HPe HZe HBe HLe Hu
      go_wp2
      go_roundw
      case rel => exact ⟨k + 1, by omega, by go_num, HPf, HZf, HBf⟩
      case measure => simp [intOf] <;> omega
    · have hkn : k = n := by omega
      have HP2 : Hid (OwIntS wr w.heap.size wr.heap.size (.slice Ap np cp) (thrI ps n).1) := Lib.hid (by rw [← hkn]; exact HP.out)
      clear HP hkn
      go_wp2
      go_ret
      exact ⟨_, rfl, HP2.out, HB.out⟩
end Go.Proofs.Ytpaaimmakkfbkaa

/- Chapter 4: SharesAdd as the program has it. -/
import Derived.Test.YticmbnfmpjjohaaWalk5j
import Derived.Test.YticmbnfmpjjohaaWalk5l
namespace Go.Proofs.Yticmbnfmpjjohaa
open Go.RowKit Go.Shelf
set_option maxRecDepth 100000

set_option maxHeartbeats 1000000 in
theorem i_add1 (b1 b2 : Nat) (A A' : Option Addr) (n c c' k : Nat) (ps qs : List (Int × Int)) (w : World) (hb1 : w.cell? ⟨b1, 0, none⟩ = some (.slice A n c)) (hb2 : w.cell? ⟨b2, 0, none⟩ = some (.slice A' n c'))
    (hl1 : b1 < w.heap.size) (hl2 : b2 < w.heap.size) (H : Rd w w.heap.size 2 A n (cP ps)) (H' : Rd w w.heap.size 2 A' n (cP qs)) (hp : numK ps n = true) (hp' : numK qs n = true) (hk : k < n) :
    Calls Try.prog 89 #[.int .i64 k, .pointer (some ⟨b1, 0, none⟩), .pointer (some ⟨b2, 0, none⟩)] w fun e w' => e = .returned (.agg #[.int .i64 (px ps k), .int .i64 ((py ps k + py qs k) % 113)]) ∧ Below w.heap.size w w' := by
  obtain ⟨a, x, y, rfl, hab, hx0, hy0, HP⟩ := H.ptAt hk
  obtain ⟨a', x', y', rfl, hab', _, hy0', HP'⟩ := H'.ptAt hk
  have HXY := pxy HP.out
  have HXY' := pxy HP'.out
  have hat := numK_at hp hk
  have hat' := numK_at hp' hk
  rw [HXY.1, HXY.2] at hat
  rw [HXY'.1, HXY'.2] at hat'
  rw [HXY.1, HXY.2, HXY'.2]
  obtain ⟨y0, y1⟩ := hat.2
  obtain ⟨z0, z1⟩ := hat'.2
  have HB := (Below.refl w.heap.size w).alloc (Nat.le_refl _) (.cells #[.int .i64 0, .int .i64 0] 33)
  have hc1 := (HB.cell (p := ⟨b1, 0, none⟩) hl1).trans hb1
  have hc2 := (HB.cell (p := ⟨b2, 0, none⟩) hl2).trans hb2
  have hx := (HB.cell (p := a.add (k * 2)) (by rw [add_block]; exact hab)).trans hx0
  have hy := (HB.cell (p := ⟨(a.add (k * 2)).block, (a.add (k * 2)).off + 1, none⟩) (by rw [add_block]; exact hab)).trans hy0
  have hy' := (HB.cell (p := ⟨(a'.add (k * 2)).block, (a'.add (k * 2)).off + 1, none⟩) (by rw [add_block]; exact hab')).trans hy0'
  have HBB := Lib.hid HB
  have hn0 : (w.alloc (.cells #[.int .i64 0, .int .i64 0] 33)).cell? ⟨w.heap.size, 0, none⟩ = some (.int .i64 0) := World.cell?_alloc_new w _ _ 0
  have hn1 : (w.alloc (.cells #[.int .i64 0, .int .i64 0] 33)).cell? ⟨w.heap.size, 1, none⟩ = some (.int .i64 0) := World.cell?_alloc_new w _ _ 1
  have hf := fun j => (Ow.new w #[.int .i64 0, .int .i64 0] 33 2 1 rfl).free (by omega) j
  clear HP HXY hat hb1 hb2 hx0 hy0 H hp HB HP' HXY' hat' hy0' H' hp'
  have i0 : (0 : Int) ≤ (k : Int) := by omega
  have i1 : (k : Int) < (n : Int) := by omega
  go_enter Try.func89, Try.ntmps89
  go_wp2
  have hf0 := hf 0
  have hf1 := hf 1
  clear hf
  obtain ⟨W1, hW1⟩ : ∃ W1, w.alloc (.cells #[.int .i64 0, .int .i64 0] 33) = W1 := ⟨_, rfl⟩
  rw [hW1] at hc1 hc2 hx hy hy' hn0 hn1 hf0 hf1 HBB ⊢
  clear hW1
  go_still_tail 16, (by kernel_rfl)
  still_call (same_ (i_plus _ _ _ y0 y1 z0 z1))
  repeat still_step
  refine wpStill_nil ?_
  change wpList _ _ _ _ _ W1.drew
  go_wp2
  refine bodyPost_ret (v := .agg #[.int .i64 x, .int .i64 ((y + y') % 113)]) (by simp [results, Try.results89, go_sem, hn0, hn1]) rfl ⟨rfl, ?_⟩
  exact below_drew ((HBB.out.setCell (p := ⟨w.heap.size, 0, none⟩) (Nat.le_refl _) _).setCell (p := ⟨w.heap.size, 1, none⟩) (Nat.le_refl _) _)

set_option maxHeartbeats 1000000 in
theorem i_sameX (A A' : Option Addr) (n n' c c' : Nat) (ps qs : List (Int × Int)) (w : World) (h : Rd w w.heap.size 2 A n (cP ps)) (h' : Rd w w.heap.size 2 A' n' (cP qs)) (hn : n ≤ 1048576) (hn' : n' ≤ 1048576) (sx : Bool) (HS : Hid (sx = (decide (n = n') && sameK ps qs n))) :
    Calls Try.prog 87 #[.slice A n c, .slice A' n' c'] w fun e w' => e = .returned (.bool sx) ∧ Below w.heap.size w w' := by
  have H := Lib.hid h
  have H' := Lib.hid h'
  clear h h'
  by_cases hne : n = n'
  · subst hne
    have HD : Hid (sx = sameK ps qs n) := Lib.hid (by rw [HS.out]; simp)
    clear HS
    go_enter Try.func87, Try.ntmps87
    go_wp2
    go_loopw [13] (fun i wr => ∃ k m : Nat, k ≤ n ∧ i = .int .i64 k ∧ Hid (sameK ps qs k = true) ∧ wr = w.drewN m) (fun i _ => n - (intOf i).toNat)
    case atStart => exact ⟨0, 0, Nat.zero_le _, rfl, Lib.hid rfl, rfl⟩
    case round =>
      obtain ⟨k, m, hk, rfl, HK, rfl⟩ := hrel
      by_cases hlt : k < n
      · obtain ⟨a, x, y, rfl, hab, hx, hy, HP⟩ := H.out.ptAt hlt
        obtain ⟨a', x', y', rfl, hab', hx', hy', HP'⟩ := H'.out.ptAt hlt
        have HXY := Lib.hid (pxy HP.out)
        have HXY' := Lib.hid (pxy HP'.out)
        have i0 : (0 : Int) ≤ (k : Int) := by omega
        have i1 : (k : Int) < (n : Int) := by omega
        by_cases hxx : x = x'
        · have hb : (x != x') = false := by simp [hxx]
          have hbb : (x == x') = true := by simp [hxx]
          have HK2 : Hid (sameK ps qs (k + 1) = true) := Lib.hid (by rw [sameK, HK.out, HXY.out.1, HXY'.out.1, hxx]; simp)
          clear hxx
          go_wp2
          go_quiet (fail)
          go_wp2
          go_roundw
          case rel => exact ⟨k + 1, _, by omega, by go_num, HK2, rfl⟩
          case measure => simp [intOf] <;> omega
        · have hb : (x != x') = true := by simp [hxx]
          have hbb : (x == x') = false := by simp [hxx]
          have HF : Hid (false = sx) := Lib.hid (by
            rw [HD.out, sameK_bad (k := k) (by rw [sameK, HXY.out.1, HXY'.out.1, beq_eq_false_iff_ne.2 hxx]; simp) hlt])
          clear hxx
          go_wp2
          go_quiet (fail)
          go_wp2
          go_ret
          exact ⟨ret_bool HF.out, below_drewN (below_drewN (Below.refl _ _) _) _⟩
      · have HF : Hid (true = sx) := Lib.hid (by rw [HD.out, ← HK.out, show k = n by omega])
        go_wp2
        go_ret
        exact ⟨ret_bool HF.out, below_drewN (Below.refl _ _) _⟩
  · have hnn : ((n : Int) == (n' : Int)) = false := by rw [beq_eq_false_iff_ne]; omega
    have HF : Hid (false = sx) := Lib.hid (by rw [HS.out, decide_eq_false hne]; rfl)
    go_enter Try.func87, Try.ntmps87
    go_wp2
    go_ret
    exact ⟨ret_bool HF.out, Below.refl _ _⟩

set_option maxHeartbeats 2000000 in
theorem X_i_SharesAdd (v v' : Value) (d d' : List (Int × Int)) (w : World) (h : RdPointS w w.heap.size v d) (h' : RdPointS w w.heap.size v' d') (hs : szPointS d ≤ 1048576) (hs' : szPointS d' ≤ 1048576) :
    Calls Try.prog 51 #[v, v'] w fun e w' => ∃ g, e = .returned (.tuple #[g, .bool (R_SharesAdd_1 d d')]) ∧ OwPointS w' w.heap.size w'.heap.size g (R_SharesAdd_0 d d') ∧ Below w.heap.size w w' := by
  obtain ⟨A, n, c, rfl, hm, r⟩ := h
  obtain ⟨A', n', c', rfl, hm', r'⟩ := h'
  have hn : n ≤ 1048576 := by have := r.plen; unfold szPointS at hs; omega
  have hn' : n' ≤ 1048576 := by have := r'.plen; unfold szPointS at hs'; omega
  have hl := Lib.hid r.plen
  have hl' := Lib.hid r'.plen
  have H := Lib.hid r
  have H' := Lib.hid r'
  clear r hs hm r' hs' hm'
  have HN : Hid (R_SharesAdd_1 d d' = (decide (n = n') && (numK d n && (numK d' n' && sameK d d' n)))) := Lib.hid (by
    unfold R_SharesAdd_1; rw [hl.out, hl'.out])
  obtain ⟨w0, HW0⟩ : ∃ w0, Hid ((w.alloc (.cells #[.slice A n c] 23)).alloc (.cells #[.slice A' n' c'] 23) = w0) := ⟨_, Lib.hid rfl⟩
  have HB0 : Hid (Below w.heap.size w w0) := Lib.hid (HW0.out ▸ ((Below.refl _ _).alloc (Nat.le_refl _) _).alloc (by simp) _)
  have hz0 : Hid (w0.heap.size = w.heap.size + 2) := Lib.hid (by rw [← HW0.out]; simp)
  have HRD : Hid (Rd w0 w0.heap.size 2 A n (cP d)) := Lib.hid ((H.out.below HB0.out).more (by have := hz0.out; omega))
  have hc1 : w0.cell? ⟨w.heap.size, 0, none⟩ = some (.slice A n c) := by rw [← HW0.out]; exact ((Boxed.new w _ _).alloc _).cell
  have hc2 : w0.cell? ⟨w.heap.size + 1, 0, none⟩ = some (.slice A' n' c') := by
    have := Boxed.new (w.alloc (.cells #[.slice A n c] 23)) 23 (.slice A' n' c')
    rw [World.size_alloc, HW0.out] at this; exact this.cell
  cases hp : numK d n
  · have HF := add_no (a := d) (b := d') (by rw [HN.out, hp]; simp)
    go_enter Try.func51, Try.ntmps51
    go_wp2_with fail
    rw [HW0.out]
    refine (i_pointsOfNumbers _ _ _ _ _ HRD.out hn).mono ?_
    rintro e w1 ⟨rfl, hb1⟩
    rw [hp]
    have HB1 := Lib.hid (HB0.out.trans (hb1.mono (by have := hz0.out; omega)))
    clear hb1
    go_wp2
    go_ret2
    refine ⟨_, ret_vb HF.out.1.symm, ?_, HB1.out⟩
    rw [HF.out.2]; exact OwPointS.nil_ _ _ _
  · cases hp' : numK d' n'
    · have HF := add_no (a := d) (b := d') (by rw [HN.out, hp, hp']; simp)
      go_enter Try.func51, Try.ntmps51
      go_wp2_with fail
      rw [HW0.out]
      refine (i_pointsOfNumbers _ _ _ _ _ HRD.out hn).mono ?_
      rintro e w1 ⟨rfl, hb1⟩
      rw [hp]
      have hd2 := (hb1.cell (p := ⟨w.heap.size + 1, 0, none⟩) (by have := hz0.out; simp; omega)).trans hc2
      have HZ1 : Hid (w.heap.size + 2 ≤ w1.heap.size) := Lib.hid (by have := hz0.out; have := hb1.size; omega)
      have HB1 := Lib.hid (HB0.out.trans (hb1.mono (by have := hz0.out; omega)))
      have HR1' : Hid (Rd w1 w1.heap.size 2 A' n' (cP d')) := Lib.hid ((H'.out.below HB1.out).more (by have := HZ1.out; omega))
      clear hb1
      go_wp2_with fail
      refine (i_pointsOfNumbers _ _ _ _ _ HR1'.out hn').mono ?_
      rintro e w2 ⟨rfl, hb2⟩
      rw [hp']
      have HB2 := Lib.hid (HB1.out.trans (hb2.mono (by have := HZ1.out; omega)))
      clear hb2
      go_wp2
      go_ret2
      refine ⟨_, ret_vb HF.out.1.symm, ?_, HB2.out⟩
      rw [HF.out.2]; exact OwPointS.nil_ _ _ _
    · have HNX : Hid (R_SharesAdd_1 d d' = (decide (n = n') && sameK d d' n)) := Lib.hid (by rw [HN.out, hp, hp']; simp)
      have HP := Lib.hid hp
      have HP' := Lib.hid hp'
      have HSZ : Hid (∀ X : World, w.heap.size + 2 ≤ X.heap.size → w.heap.size < X.heap.size ∧ w.heap.size + 1 < X.heap.size ∧ w.heap.size ≤ X.heap.size) := Lib.hid (fun X h => by omega)
      cases hsx : (decide (n = n') && sameK d d' n)
      all_goals
        go_enter Try.func51, Try.ntmps51
        go_wp2_with fail
        rw [HW0.out]
        refine (i_pointsOfNumbers _ _ _ _ _ HRD.out hn).mono ?_
        rintro e w1 ⟨rfl, hb1⟩
        rw [hp]
        have hd1 := (hb1.cell (p := ⟨w.heap.size, 0, none⟩) (by have := hz0.out; simp; omega)).trans hc1
        have hd2 := (hb1.cell (p := ⟨w.heap.size + 1, 0, none⟩) (by have := hz0.out; simp; omega)).trans hc2
        have HZ1 : Hid (w.heap.size + 2 ≤ w1.heap.size) := Lib.hid (by have := hz0.out; have := hb1.size; omega)
        have HB1 := Lib.hid (HB0.out.trans (hb1.mono (by have := hz0.out; omega)))
        have HR1 : Hid (Rd w1 w1.heap.size 2 A n (cP d)) := Lib.hid ((H.out.below HB1.out).more (HSZ.out _ HZ1.out).2.2)
        have HR1' : Hid (Rd w1 w1.heap.size 2 A' n' (cP d')) := Lib.hid ((H'.out.below HB1.out).more (HSZ.out _ HZ1.out).2.2)
        clear hb1
        go_wp2_with fail
        refine (i_pointsOfNumbers _ _ _ _ _ HR1'.out hn').mono ?_
        rintro e w2 ⟨rfl, hb2⟩
        rw [hp']
        have he1 := (hb2.cell (p := ⟨w.heap.size, 0, none⟩) (HSZ.out _ HZ1.out).1).trans hd1
        have he2 := (hb2.cell (p := ⟨w.heap.size + 1, 0, none⟩) (HSZ.out _ HZ1.out).2.1).trans hd2
        have HZ2 : Hid (w.heap.size + 2 ≤ w2.heap.size) := Lib.hid (Nat.le_trans HZ1.out hb2.size)
        have HB2 := Lib.hid (HB1.out.trans (hb2.mono (HSZ.out _ HZ1.out).2.2))
        have HR2 : Hid (Rd w2 w2.heap.size 2 A n (cP d)) := Lib.hid ((H.out.below HB2.out).more (HSZ.out _ HZ2.out).2.2)
        have HR2' : Hid (Rd w2 w2.heap.size 2 A' n' (cP d')) := Lib.hid ((H'.out.below HB2.out).more (HSZ.out _ HZ2.out).2.2)
        clear hb2 hd1 hd2
        go_wp2_with fail
        refine (i_sameX _ _ _ _ _ _ _ _ _ HR2.out HR2'.out hn hn' _ (Lib.hid rfl)).mono ?_
        rintro e w3 ⟨rfl, hb3⟩
        rw [hsx]
        have hg1 := (hb3.cell (p := ⟨w.heap.size, 0, none⟩) (HSZ.out _ HZ2.out).1).trans he1
        have hg2 := (hb3.cell (p := ⟨w.heap.size + 1, 0, none⟩) (HSZ.out _ HZ2.out).2.1).trans he2
        have HZ3 : Hid (w.heap.size + 2 ≤ w3.heap.size) := Lib.hid (Nat.le_trans HZ2.out hb3.size)
        have HB3 := Lib.hid (HB2.out.trans (hb3.mono (HSZ.out _ HZ2.out).2.2))
        clear hb3 he1 he2
      · have HF := add_no (a := d) (b := d') (by rw [HNX.out, hsx])
        go_wp2
        go_ret2
        refine ⟨_, ret_vb HF.out.1.symm, ?_, HB3.out⟩
        rw [HF.out.2]; exact OwPointS.nil_ _ _ _
      · have HF1 : Hid (R_SharesAdd_1 d d' = true) := Lib.hid (by rw [HNX.out, hsx])
        have hnn : n = n' := by rw [Bool.and_eq_true, decide_eq_true_eq] at hsx; exact hsx.1
        subst hnn
        have HF2 : Hid (R_SharesAdd_0 d d' = uptoF (fun k => (px d k, (py d k + py d' k) % 113)) n) := Lib.hid (by unfold R_SharesAdd_0; rw [if_pos HF1.out, hl.out]; rfl)
        have HR3 : Hid (Rd w3 w3.heap.size 2 A n (cP d)) := Lib.hid ((H.out.below HB3.out).more (HSZ.out _ HZ3.out).2.2)
        have HR3' : Hid (Rd w3 w3.heap.size 2 A' n (cP d')) := Lib.hid ((H'.out.below HB3.out).more (HSZ.out _ HZ3.out).2.2)
        have HG1 := Lib.hid hg1
        have HG2 := Lib.hid hg2
        clear hp hp' hsx
        go_wp2_with fail
        refine (i_listed_add w.heap.size (w.heap.size + 1) n hn (fun k => (px d k, (py d k + py d' k) % 113)) _ (fun W k hW hk => ?_)).mono ?_
        · exact i_add1 w.heap.size (w.heap.size + 1) A A' n c c' k d d' W ((hW.cell (p := ⟨w.heap.size, 0, none⟩) (HSZ.out _ HZ3.out).1).trans HG1.out) ((hW.cell (p := ⟨w.heap.size + 1, 0, none⟩) (HSZ.out _ HZ3.out).2.1).trans HG2.out)
            (Nat.lt_of_lt_of_le (HSZ.out _ HZ3.out).1 hW.size) (Nat.lt_of_lt_of_le (HSZ.out _ HZ3.out).2.1 hW.size) ((HR3.out.below hW).more hW.size) ((HR3'.out.below hW).more hW.size) HP.out HP'.out hk
        · rintro e w4 ⟨g, rfl, ho, hb4⟩
          have HO := Lib.hid (ho.widen (HSZ.out _ HZ3.out).2.2 (Nat.le_refl _))
          have HB4 := Lib.hid (HB3.out.trans (hb4.mono (HSZ.out _ HZ3.out).2.2))
          clear ho hb4
          go_wp2
          go_ret2
          exact ⟨_, ret_vb HF1.out.symm, by rw [HF2.out]; exact HO.out, HB4.out⟩
end Go.Proofs.Yticmbnfmpjjohaa

/- Chapter 3 in the program: MatrixKernel. -/
import Derived.Test.YtbnobkojkfmccaaWalk4g
namespace Go.Proofs.Ytbnobkojkfmccaa
open Go.RowKit
set_option maxRecDepth 100000

/-- one row more laid into a row of slices that was made -/
theorem OwR.fill {w2 : World} {lo mid g k n : Nat} {vs' : List Value} {d : List (List Int)} {v : Value} (HO1 : OwR w2 lo mid (some ⟨g, 0, none⟩) n n vs' (copyR d n k)) (hd : d.length = n) (hk : k < n) (hm : mid ≤ w2.heap.size) (hlm : lo ≤ mid)
    (hv : OwIntS w2 mid w2.heap.size v (d.getD k [])) : OwR (w2.setCell ⟨g, k, none⟩ v) lo (w2.setCell ⟨g, k, none⟩ v).heap.size (some ⟨g, 0, none⟩) n n (vs'.set k v) (copyR d n (k + 1)) := by
  have hgl : g < mid := by
    obtain ⟨_, _, e, _, h2, _⟩ := HO1.1.lt (by omega)
    injection e with e; injection e with e; omega
  have hlv : vs'.length = n := by have := HO1.1.1; omega
  have hgv : ∀ i, (vs'.set k v).getD i undef = if k = i then v else vs'.getD i undef := by
    intro i
    simp only [List.getD_eq_getElem?_getD, List.getElem?_set]
    by_cases hc : k = i
    · subst hc; rw [if_pos rfl, if_pos rfl, if_pos (by omega)]; rfl
    · rw [if_neg hc, if_neg hc]
  have hkp : Kept g (g + 1) w2 (w2.setCell ⟨g, k, none⟩ v) := (Kept.refl _ _ _).setCell (p := ⟨g, k, none⟩) (Nat.le_refl _) (Nat.lt_succ_self _) v
  have hout := HO1.1.set k v
  have hzz : (w2.setCell ⟨g, k, none⟩ v).heap.size = w2.heap.size := World.size_setCell _ _ _
  have far : ∀ {x : List Int} {u : Value}, x ≠ [] → OwIntS w2 lo mid u x → u.ownBlock ≠ some g := by
    intro x u hx hu e
    obtain ⟨g1, _, _, hb2, _, cs, hg⟩ := hu.tight hx
    rw [hb2] at e; injection e with e; subst e
    obtain ⟨g', cs', e', _, _, hg', _⟩ := HO1.1.lt (by omega)
    injection e' with e'; injection e' with e'; subst e'
    rw [hg] at hg'; injection hg' with hg'; injection hg' with _ ht
    exact absurd ht (by decide)
  refine ⟨hout.widen (Nat.le_refl _) (by omega), by simp [copyR]; omega, fun i hi => ?_, fun i j hi hj hij hx hy => ?_⟩
  · rw [hgv, copyR_get _ _ _ _ hd (by omega), hzz]
    by_cases hc : k = i
    · subst hc
      rw [if_pos rfl, if_pos (by omega)]
      exact (hv.kept hkp (Nat.le_refl _) (.inl (by omega))).widen hlm (Nat.le_refl _)
    · rw [if_neg hc]
      have h1 := HO1.2.2.1 i hi
      rw [copyR_get _ _ _ _ hd (by omega)] at h1
      by_cases h2 : i < k
      · rw [if_pos h2] at h1
        rw [if_pos (by omega)]
        exact (h1.kept1 hkp hm fun hx => far hx h1).widen (Nat.le_refl _) hm
      · rw [if_neg h2] at h1
        rw [if_neg (by omega)]
        exact h1.empty _ _ _
  · rw [copyR_get _ _ _ _ hd (by omega)] at hx hy
    rw [hgv, hgv]
    have old : ∀ i, i < n → i ≠ k → (if i < k + 1 then d.getD i [] else []) ≠ [] → OwIntS w2 lo mid (vs'.getD i undef) (d.getD i []) ∧ d.getD i [] ≠ [] := by
      intro i hi hne hx
      by_cases h2 : i < k + 1
      · rw [if_pos h2] at hx
        have h1 := HO1.2.2.1 i hi
        rw [copyR_get _ _ _ _ hd (by omega), if_pos (by omega)] at h1
        exact ⟨h1, hx⟩
      · rw [if_neg h2] at hx; exact absurd rfl hx
    by_cases hci : k = i
    · subst hci
      rw [if_pos rfl, if_neg (by omega)]
      rw [if_pos (by omega)] at hx
      obtain ⟨h1, h2⟩ := old j hj (by omega) hy
      obtain ⟨g1, a1, _, b1, _⟩ := hv.tight hx
      obtain ⟨g', _, a2, b2, _⟩ := h1.tight h2
      rw [b1, b2]; intro e; injection e with e; omega
    · rw [if_neg hci]
      by_cases hcj : k = j
      · subst hcj
        rw [if_pos rfl]
        rw [if_pos (by omega)] at hy
        obtain ⟨h1, h2⟩ := old i hi (by omega) hx
        obtain ⟨g1, a1, _, b1, _⟩ := hv.tight hy
        obtain ⟨g', _, a2, b2, _⟩ := h1.tight h2
        rw [b1, b2]; intro e; injection e with e; omega
      · rw [if_neg hcj]
        obtain ⟨h1, h2⟩ := old i hi (fun e => hci e.symm) hx
        obtain ⟨h3, h4⟩ := old j hj (fun e => hcj e.symm) hy
        refine HO1.2.2.2 i j hi hj hij ?_ ?_
        · rw [copyR_get _ _ _ _ hd (by omega)]
          by_cases h5 : i < k
          · rw [if_pos h5]; exact h2
          · by_cases h6 : i < k + 1
            · omega
            · rw [if_neg h6] at hx; exact absurd rfl hx
        · rw [copyR_get _ _ _ _ hd (by omega)]
          by_cases h5 : j < k
          · rw [if_pos h5]; exact h4
          · by_cases h6 : j < k + 1
            · omega
            · rw [if_neg h6] at hy; exact absurd rfl hy

set_option maxHeartbeats 4000000 in
theorem X_i_MatrixKernel (v : Value) (a : List (List Int)) (w : World) (h : RdIntSS w w.heap.size v a) (hs : szIntSS a ≤ 1048576) :
    Calls Try.prog 29 #[v] w fun e w' => ∃ g, e = .returned g ∧ OwIntSS w' w.heap.size w'.heap.size g (R_MatrixKernel_0 a) ∧ Below w.heap.size w w' := by
  obtain ⟨A, n, c, vs, rfl, hm, r⟩ := h
  have hn : n ≤ 1048576 := by have := r.2.1; unfold szIntSS at hs; omega
  have HLN : Hid (lensK a n ≤ 1048576) := Lib.hid (by have := r.2.1; unfold szIntSS at hs; rw [← this]; omega)
  have hl := Lib.hid r.2.1
  have H := Lib.hid r
  clear r hs hm
  cases ha : matB a
  · have HR : Hid (R_MatrixKernel_0 a = []) := Lib.hid (by simp [R_MatrixKernel_0, ha])
    go_enter Try.func29, Try.ntmps29
    go_wp2_with fail
    refine (i_MatrixOk _ _ _ _ _ _ H.out hn HLN.out).mono ?_
    rintro e w1 ⟨rfl, rfl⟩
    rw [ha]
    go_wp2
    go_ret
    refine ⟨_, rfl, ?_, Below.refl _ _⟩
    rw [HR.out]
    refine ⟨by simp [szIntSS, lensK], _, 0, 0, [], rfl, ⟨rfl, Nat.le_refl _, .inl rfl⟩, rfl, fun i hi => absurd hi (by omega), fun i j hi => absurd hi (by omega)⟩
  · obtain ⟨m, hmm⟩ : ∃ m, m = (a.getD 0 []).length := ⟨_, rfl⟩
    have HR : Hid (R_MatrixKernel_0 a = kerK a m m) := Lib.hid (by unfold R_MatrixKernel_0; rw [if_pos ha, hmm])
    have HM : Hid (Mat a m) := Lib.hid (by rw [hmm]; exact Mat.of ha)
    have m8 : m ≤ 8 := HM.out.cols.2
    have n8 : n ≤ 8 := by have := HM.out.rows.2; have := hl.out; omega
    have n1 : 1 ≤ n := by have := HM.out.rows.1; have := hl.out; omega
    have HI := Lib.hid (redOf_inv HM.out (nums_zeros n))
    have hmk := fun W => run_make1 (P := Try.prog) Try.underlying27 info_int rfl n (by omega) (by omega) W
    have HB0 : Hid (Below w.heap.size w (w.alloc (.cells (Array.replicate n (.int .i64 0)) 3))) := Lib.hid ((Below.refl _ _).alloc (Nat.le_refl _) _)
    have HR1 : Hid (RdR (w.alloc (.cells (Array.replicate n (.int .i64 0)) 3)) (w.alloc (.cells (Array.replicate n (.int .i64 0)) 3)).heap.size A n vs a) := Lib.hid ((H.out.keep HB0.out).more (by have := HB0.out.size; exact this))
    have HZ1 : Hid (Rd (w.alloc (.cells (Array.replicate n (.int .i64 0)) 3)) (w.alloc (.cells (Array.replicate n (.int .i64 0)) 3)).heap.size 1 (some ⟨w.heap.size, 0, none⟩) n (cI (List.replicate n 0))) := Lib.hid (by
      rw [← cI_zeros]
      exact (Ow.zeros w (.int .i64 0) 3 n).rd.more (by simp))
    clear hmm
    go_enter Try.func29, Try.ntmps29
    go_wp2_with fail
    refine (i_MatrixOk _ _ _ _ _ _ H.out hn HLN.out).mono ?_
    rintro e w1 ⟨rfl, rfl⟩
    rw [ha]
    go_wp2_with fail
    refine (i_reduced _ _ _ _ _ m _ _ _ _ HR1.out HZ1.out HM.out (nums_zeros n)).mono ?_
    rintro e w5 ⟨g0, At, Ad, kt, ct, kd, cd, rfl, hg0, ho, ht, hd, hbl⟩
    have HTL : Hid ((redOf a (List.replicate n 0) m).2.length = kt) := Lib.hid (by have := ht.1; rw [cI_length] at this; omega)
    have HDL : Hid ((depC (augR a (List.replicate n 0) n) n (m + 1) m).length = kd) := Lib.hid (by have := hd.1; rw [cI_length] at this; omega)
    have HKD : Hid (kt + kd = m) := Lib.hid (by
      have h1 := depC_len (augR a (List.replicate n 0) n) n (m + 1) m
      have h3 := HTL.out
      have h4 := HDL.out
      unfold redOf at h3
      rw [hl.out] at h3
      omega)
    have hkt : kt ≤ n := by have := HI.out.2.1; have := HTL.out; have := hl.out; omega
    have hkd : kd ≤ 8 := by have := HKD.out; omega
    have hgl : g0 < w5.heap.size := by
      obtain ⟨cs, hb0⟩ := ho.blockOf (by omega)
      exact block_lt hb0
    have HO := Lib.hid ho
    obtain ⟨Aq, cq, hvq, hot⟩ := Ow.of_own ht
    have HOT : Hid (Rd w5 w5.heap.size 1 At kt (cI (redOf a (List.replicate n 0) m).2)) := Lib.hid (by
      injection hvq with e1 e2 e3; subst e1; subst e3
      exact hot.rd)
    obtain ⟨Aq2, cq2, hvq2, hod⟩ := Ow.of_own hd
    have HOD : Hid (Rd w5 w5.heap.size 1 Ad kd (cI (depC (augR a (List.replicate n 0) n) n (m + 1) m))) := Lib.hid (by
      injection hvq2 with e1 e2 e3; subst e1; subst e3
      exact hod.rd)
    have HB5 : Hid (Below w.heap.size w w5) := Lib.hid (HB0.out.trans (hbl.mono HB0.out.size))
    have HSZ := Lib.hid HB5.out.size
    have HKL : Hid ((kerK a m m).length = kd) := Lib.hid (by rw [kerK_len, hl.out]; exact HDL.out)
    have hmk2 := fun W => run_make1 (P := Try.prog) Try.underlying22 info_row rfl kd (by omega) (by omega) W
    clear ho ht hd hbl hvq hot hvq2 hod hmk
    obtain ⟨W6, hW6⟩ : ∃ W6, W6 = w5.alloc (.cells #[.slice (some ⟨g0, 0, none⟩) n n, .slice At kt ct, .slice Ad kd cd] 71) := ⟨_, rfl⟩
    have h6z : W6.heap.size = w5.heap.size + 1 := by rw [hW6]; simp
    have HS7 : Hid (((w5.alloc (.cells #[.slice (some ⟨g0, 0, none⟩) n n, .slice At kt ct, .slice Ad kd cd] 71)).alloc (.cells (Array.replicate kd (.slice none 0 0)) 27)).heap[w5.heap.size]? = some (.cells #[.slice (some ⟨g0, 0, none⟩) n n, .slice At kt ct, .slice Ad kd cd] 71 (0, 0))) := Lib.hid (by
      rw [Below.heap_alloc _ _ _ (by simp)]; exact heap_alloc_new _ _)
    have HB7 : Hid (Below w5.heap.size w5 ((w5.alloc (.cells #[.slice (some ⟨g0, 0, none⟩) n n, .slice At kt ct, .slice Ad kd cd] 71)).alloc (.cells (Array.replicate kd (.slice none 0 0)) 27))) := Lib.hid (((Below.refl _ _).alloc (Nat.le_refl _) _).alloc (by simp) _)
    have HO7 : Hid (OwR ((w5.alloc (.cells #[.slice (some ⟨g0, 0, none⟩) n n, .slice At kt ct, .slice Ad kd cd] 71)).alloc (.cells (Array.replicate kd (.slice none 0 0)) 27)) (w5.heap.size + 1) ((w5.alloc (.cells #[.slice (some ⟨g0, 0, none⟩) n n, .slice At kt ct, .slice Ad kd cd] 71)).alloc (.cells (Array.replicate kd (.slice none 0 0)) 27)).heap.size (some ⟨w5.heap.size + 1, 0, none⟩) kd kd (List.replicate kd (.slice none 0 0)) (copyR (kerK a m m) kd 0)) := Lib.hid (by
      refine ⟨?_, by simp [copyR], fun i hi => ?_, fun i j hi hj hij hx => ?_⟩
      · have h1 := Ow.zeros (w5.alloc (.cells #[.slice (some ⟨g0, 0, none⟩) n n, .slice At kt ct, .slice Ad kd cd] 71)) (.slice none 0 0) 27 kd
        rw [World.size_alloc] at h1
        exact h1.widen (Nat.le_refl _) (by simp)
      · rw [copyR_get _ _ _ _ HKL.out (Nat.zero_le _), if_neg (by omega)]
        rw [show (List.replicate kd (Value.slice none 0 0)).getD i undef = .slice none 0 0 by simp [hi]]
        exact OwIntS.nil_ _ _ _
      · rw [copyR_get _ _ _ _ HKL.out (Nat.zero_le _), if_neg (by omega)] at hx; exact absurd rfl hx)
    clear hW6 h6z
    unfold sysC
    go_wp2
    clear hmk2
    go_loopw [22] (fun i wr => ∃ (k : Nat) (vs' : List Value), k ≤ kd ∧ i = .int .i64 k ∧ Hid (OwR wr (w5.heap.size + 1) wr.heap.size (some ⟨w5.heap.size + 1, 0, none⟩) kd kd vs' (copyR (kerK a m m) kd k)) ∧ Hid (Below w5.heap.size w5 wr) ∧ Hid (wr.heap[w5.heap.size]? = some (.cells #[.slice (some ⟨g0, 0, none⟩) n n, .slice At kt ct, .slice Ad kd cd] 71 (0, 0))) ∧ Hid (w5.heap.size + 2 ≤ wr.heap.size)) (fun i _ => kd - (intOf i).toNat)
    case atStart => exact ⟨0, _, Nat.zero_le _, rfl, HO7, HB7, HS7, Lib.hid (by simp)⟩
    case round =>
      clear HO7 HB7 HS7
      obtain ⟨k, vs', hk, rfl, HOK, HB, HS, HZ⟩ := hrel
      by_cases hlt : k < kd
      · obtain ⟨ad, q, rfl, had, hcq0, HQ⟩ := HOD.out.intAt hlt
        have hbq := depC_bd (augR a (List.replicate n 0) n) n (m + 1) m k (by rw [HDL.out]; exact hlt)
        rw [← HQ.out] at hbq
        obtain ⟨j, rfl⟩ := Int.eq_ofNat_of_zero_le hbq.1
        have hjm : j < m := by omega
        have hcq := (HB.out.cell (p := ad.add k) (by rw [add_block]; exact had)).trans hcq0
        have hs0 : wr.cell? ⟨w5.heap.size, 0, none⟩ = some (.slice (some ⟨g0, 0, none⟩) n n) := block_cell HS.out rfl
        have hs1 : wr.cell? ⟨w5.heap.size, 1, none⟩ = some (.slice At kt ct) := block_cell HS.out rfl
        have hs2 : wr.cell? ⟨w5.heap.size, 2, none⟩ = some (.slice (some ad) kd cd) := block_cell HS.out rfl
        have HROW : Hid (zerP ((redOf a (List.replicate n 0) m).1.map (E9 m)) (redOf a (List.replicate n 0) m).2 m j kt = (kerK a m m).getD k []) := Lib.hid (by
          unfold kerK
          rw [map_getD _ _ k 0 [] (by rw [hl.out, HDL.out]; exact hlt), hl.out, ← HQ.out, show ((j : Int)).toNat = j by omega, ← HTL.out]
          exact zerP_is m8 hjm HI.out.1.1 HI.out.2.1)
        have i0 : (0 : Int) ≤ (k : Int) := by omega
        have i1 : (k : Int) < (kd : Int) := by omega
        have hz5 := HB.out.size
        clear hcq0 hbq HQ
        go_wp2_with fail
        refine (i_zeroWith g0 n kt ct kd cd m j At (some ad) _ _ _ (HO.out.below HB.out (by omega)) W9.map ((HOT.out.below HB.out).more hz5) (fun i hi => HI.out.2.2 i (by rw [HTL.out]; exact hi)) HKD.out m8 hkt (by omega) n8 hjm (N9.map HI.out.1)).mono ?_
        rintro e w7 ⟨v7, rfl, ho7, hb7⟩
        rw [HROW.out] at ho7
        obtain ⟨Av, nv, cv, hv⟩ : ∃ Av nv cv, v7 = .slice Av nv cv := by obtain ⟨_, Av, nv, cv, rfl, _⟩ := ho7; exact ⟨_, _, _, rfl⟩
        subst hv
        have HOK1 := Lib.hid (HOK.out.below hb7 (Nat.le_refl _))
        have hcell : ∃ u, w7.cell? ⟨w5.heap.size + 1, k, none⟩ = some u := by
          obtain ⟨g, Aj, nj, cj, e, _, _, hcc, _⟩ := HOK1.out.row hlt
          injection e with e; injection e with e; subst e
          exact ⟨_, hcc⟩
        obtain ⟨u, hcu⟩ := hcell
        have hf := HOK1.out.1.free (by omega) k
        have HOK2 := Lib.hid (HOK1.out.fill HKL.out hlt hb7.size (by have := HZ.out; omega) ho7)
        have kset : Kept (w5.heap.size + 1) (w5.heap.size + 1 + 1) w7 (w7.setCell ⟨w5.heap.size + 1, k, none⟩ (.slice Av nv cv)) := (Kept.refl _ _ _).setCell (p := ⟨w5.heap.size + 1, k, none⟩) (Nat.le_refl _) (Nat.lt_succ_self _) _
        have HB2 : Hid (Below w5.heap.size w5 (w7.setCell ⟨w5.heap.size + 1, k, none⟩ (.slice Av nv cv))) := Lib.hid ((HB.out.trans (hb7.mono hz5)).setCell (p := ⟨w5.heap.size + 1, k, none⟩) (by dsimp only; omega) _)
        have HS2 := Lib.hid ((KeptS.of_kept (S := fun q => q = w5.heap.size + 1) kset rfl).heap ((KeptS.of_below (S := fun _ => False) hb7).heap HS.out (fun h => h)) (by omega))
        have HZ2 : Hid (w5.heap.size + 2 ≤ (w7.setCell ⟨w5.heap.size + 1, k, none⟩ (.slice Av nv cv)).heap.size) := Lib.hid (by rw [World.size_setCell]; have := HZ.out; have := hb7.size; omega)
        clear HOK HB HS HZ ho7 hb7 HOK1 kset
        go_wp2
        go_roundw
        case rel => exact ⟨k + 1, _, by omega, by go_num, HOK2, HB2, HS2, HZ2⟩
        case measure => simp [intOf] <;> omega
      · obtain rfl : k = kd := by omega
        go_wp2
        go_ret
        refine ⟨_, rfl, ?_, HB5.out.trans (HB.out.mono HSZ.out)⟩
        rw [HR.out]
        have h1 := HOK.out
        rw [copyR_all _ _ HKL.out] at h1
        exact ⟨kerK_sz a m m m8 m8, _, _, _, _, rfl, h1.widen (by have := HSZ.out; omega) (Nat.le_refl _)⟩
end Go.Proofs.Ytbnobkojkfmccaa

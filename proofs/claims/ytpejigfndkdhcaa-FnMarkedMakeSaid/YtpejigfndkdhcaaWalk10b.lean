/- Chapter 10 in the program: sums of either kind. Made by tools/gen10/sums.py. -/
import Derived.Test.YtpejigfndkdhcaaWalk10a
namespace Go.Proofs.Ytpejigfndkdhcaa
open Go.RowKit
set_option maxRecDepth 100000

set_option maxHeartbeats 1000000 in
theorem i_manyNumbers (A : Option Addr) (n c : Nat) (zs : List Int) (m : Int) (w : World) (h : Rd w w.heap.size 1 A n (cI zs)) (hn : n ≤ 1048576) :
    Calls Try.prog 72 #[.slice A n c, .int .i64 m] w fun e w' => e = .returned (.bool (decide ((n : Int) = m) && numsB zs)) ∧ w = w' := by
  have H := Lib.hid h
  clear h
  by_cases hm : (n : Int) = m
  · have HF : Hid ((decide ((n : Int) = m) && numsB zs) = numsB zs) := Lib.hid (by simp [hm])
    subst hm
    go_enter Try.func72, Try.ntmps72
    go_wp2_with fail
    refine (i_numbersOk _ _ _ _ _ H.out hn).mono ?_
    rintro e w' ⟨rfl, rfl⟩
    go_wp2
    go_ret
    exact ⟨ret_bool HF.out.symm, rfl⟩
  · have HF : Hid ((decide ((n : Int) = m) && numsB zs) = false) := Lib.hid (by simp [hm])
    have hm2 : ((n : Int) == m) = false := by rw [beq_eq_false_iff_ne]; exact hm
    go_enter Try.func72, Try.ntmps72
    go_wp2
    go_ret
    exact ⟨ret_bool HF.out.symm, rfl⟩

/-- a block of one's own: it is in the world -/
theorem own_wide {w : World} {lo hi n c : Nat} {A : Option Addr} {zs : List Int} (h : Ow w lo hi 3 1 A n c (cI zs)) : Ow w lo w.heap.size 3 1 A n c (cI zs) := by
  refine ⟨h.1, h.2.1, ?_⟩
  rcases h.2.2 with h0 | ⟨g, cs, rfl, a, b, hb, r⟩
  · exact .inl h0
  · exact .inr ⟨g, cs, rfl, a, (Array.getElem?_eq_some_iff.1 hb).1, hb, r⟩

set_option maxHeartbeats 1000000 in
theorem i_totalV (A : Option Addr) (n c : Nat) (zs : List Int) (w : World) (h : Rd w w.heap.size 1 A n (cI zs)) (hN : Nums zs) (hn : n ≤ 1048576) :
    Calls Try.prog 62 #[.slice A n c] w fun e w' => e = .returned (.int .i64 (sumI zs)) ∧ w = w' := by
  have hlen : Hid (zs.length = n) := Lib.hid h.len
  have H := Lib.hid h
  have HN := Lib.hid hN
  clear h hN
  go_enter Try.func62, Try.ntmps62
  go_wp2
  go_loop [3, 8] (fun o i => ∃ (k : Nat) (M : Int), k ≤ n ∧ i = .int .i64 k ∧ o = .int .i64 M ∧ 0 ≤ M ∧ M ≤ 112 ∧ Hid (M = sumK zs k)) (fun _ i => n - (intOf i).toNat)
  case atStart => exact ⟨0, 0, Nat.zero_le _, rfl, rfl, by omega, by omega, Lib.hid rfl⟩
  case round =>
    obtain ⟨k, M, hk, rfl, rfl, M0, M1, HM⟩ := hrel
    by_cases hlt : k < n
    · obtain ⟨a, z, rfl, hab, hck, HZ⟩ := H.out.intAt hlt
      have z0 : 0 ≤ z := by rw [HZ.out]; exact (HN.out k).1
      have z1 : z ≤ 112 := by rw [HZ.out]; exact (HN.out k).2
      have HE : Hid ((M + z) % 113 = sumK zs (k + 1)) := Lib.hid (by rw [sumK, ← HZ.out, HM.out])
      clear HM
      go_wp2_with (first | (go_at_call 107; refine (i_plus _ _ _ M0 M1 z0 z1).mono ?_; rintro e w' ⟨rfl, rfl⟩) | go_in)
      go_round
      case rel => exact ⟨k + 1, (M + z) % 113, by omega, by go_num, rfl, by omega, by omega, HE⟩
      case measure => simp [intOf] <;> omega
    · have hkn : k = n := by omega
      have HF : Hid (M = sumI zs) := Lib.hid (by rw [HM.out, sumI, hlen.out, hkn])
      clear HM hkn
      go_wp2
      go_ret
      exact ⟨ret_i HF.out, rfl⟩

set_option maxHeartbeats 1000000 in
theorem i_sumsToV (a : Int) (A : Option Addr) (n c : Nat) (zs : List Int) (w : World) (h : Rd w w.heap.size 1 A n (cI zs)) (hN : Nums zs) (hn : n ≤ 1000) (a0 : 0 ≤ a) (a1 : a ≤ 112) :
    Calls Try.prog 73 #[.int .i64 a, .slice A n c] w fun e w' => ∃ A' c', e = .returned (.slice A' (1 + n) c') ∧ OwIntS w' w.heap.size w'.heap.size (.slice A' (1 + n) c') (splitL a zs) ∧ Below w.heap.size w w' := by
  have sb := sumI_bd zs
  obtain ⟨S, hS⟩ : ∃ S, Hid (sumI zs = S) := ⟨_, Lib.hid rfl⟩
  rw [hS.out] at sb
  have HE : Hid (splitL a zs = ((a - S) % 113) :: zs) := Lib.hid (by rw [splitL, hS.out])
  have HLIT := Lib.hid (lit_int0 w ((a - S) % 113))
  have HRD : Hid (Rd (w.alloc (.cells #[.int .i64 ((a - S) % 113)] 3)) w.heap.size 1 A n (cI zs)) := Lib.hid (h.below ((Below.refl _ _).alloc (Nat.le_refl _) _))
  have H := Lib.hid h
  have HN := Lib.hid hN
  clear h hN
  go_enter Try.func73, Try.ntmps73
  go_wp2_with fail
  refine (i_totalV _ _ _ _ _ H.out HN.out (by omega)).mono ?_
  rintro e w' ⟨rfl, rfl⟩
  rw [hS.out]
  go_wp2_with fail
  refine (i_minus _ _ _ a0 a1 sb.1 sb.2).mono ?_
  rintro e w' ⟨rfl, rfl⟩
  go_wp2_with (at_builtin
               refine wpList_append_rd2 rfl (.tmp 11) (.tmp 12) 84 22 3 rfl w.heap.size 3 _ 1 8 Try.underlying84 Try.underlying22 info_int rfl (by decide) (.slice (some ⟨w.heap.size, 0, none⟩) 1 1) 1 [.int .i64 ((a - S) % 113)] rfl HLIT.out _ A n c (cI zs) rfl HRD.out (cI_one _) (by unfold maxLen; omega) (by omega) (by simp) ?_
               intro v5 w5 hown hgr hat
               have HO5 : Hid (∃ A c, v5 = .slice A (1 + n) c ∧ OwIntS w5 w.heap.size w5.heap.size (.slice A (1 + n) c) (splitL a zs)) := Lib.hid (by rw [HE.out]; exact own_fin (ys := ((a - S) % 113) :: zs) hown (by omega))
               have HB5 : Hid (Below w.heap.size w w5) := Lib.hid (below_grown ((Below.refl _ _).alloc (Nat.le_refl _) _) hgr (fun g e => by simp [Value.ownBlock] at e; omega) (by simp))
               clear hown hgr hat)
  obtain ⟨A5, c5, rfl, ho5⟩ := HO5.out
  go_ret
  exact ⟨_, _, rfl, ho5, HB5.out⟩

set_option maxHeartbeats 2000000 in
theorem i_plusV (A A' : Option Addr) (n c n' c' : Nat) (xs ys : List Int) (w : World) (h : Rd w w.heap.size 1 A n (cI xs)) (h' : Rd w w.heap.size 1 A' n' (cI ys)) (hN : Nums xs) (hM : Nums ys) (hn : n ≤ 7) (hnn : n' = n) :
    Calls Try.prog 105 #[.slice A n c, .slice A' n' c'] w fun e w' => ∃ A3 c3, e = .returned (.slice A3 n c3) ∧ OwIntS w' w.heap.size w'.heap.size (.slice A3 n c3) (mixL xs ys 1) ∧ Below w.heap.size w w' := by
  subst hnn
  have hmk := fun W => run_make1 (P := Try.prog) Try.underlying84 info_int rfl n' (by omega) (by omega) W
  have hlen : Hid (xs.length = n') := Lib.hid h.len
  have H := Lib.hid h
  have H' := Lib.hid h'
  have HN := Lib.hid hN
  have HM := Lib.hid hM
  clear h h' hN hM
  go_enter Try.func105, Try.ntmps105
  go_wp2
  go_loopw [13] (fun i wr => ∃ k : Nat, k ≤ n' ∧ i = .int .i64 k ∧ Hid (Ow wr w.heap.size (w.heap.size + 1) 3 1 (some ⟨w.heap.size, 0, none⟩) n' n' (cI ((mixL xs ys 1).take k ++ List.replicate (n' - k) 0))) ∧ Hid (Below w.heap.size w wr)) (fun i _ => n' - (intOf i).toNat)
  case atStart => exact ⟨0, Nat.zero_le _, rfl, Lib.hid (by rw [List.take_zero, List.nil_append, Nat.sub_zero, ← cI_zeros]; exact Ow.zeros _ _ _ _), Lib.hid ((Below.refl _ _).alloc (Nat.le_refl _) _)⟩
  case round =>
    obtain ⟨k, hk, rfl, HO, HB⟩ := hrel
    by_cases hlt : k < n'
    · obtain ⟨a, x, rfl, hab, hx0, HX⟩ := H.out.intAt hlt
      obtain ⟨a', y, rfl, hab', hy0, HY⟩ := H'.out.intAt hlt
      have hx := (HB.out.cell (p := a.add k) (by rw [add_block]; exact hab)).trans hx0
      have hy := (HB.out.cell (p := a'.add k) (by rw [add_block]; exact hab')).trans hy0
      have x0 : 0 ≤ x := by rw [HX.out]; exact (HN.out k).1
      have x1 : x ≤ 112 := by rw [HX.out]; exact (HN.out k).2
      have y0 : 0 ≤ y := by rw [HY.out]; exact (HM.out k).1
      have y1 : y ≤ 112 := by rw [HY.out]; exact (HM.out k).2
      have hd : wr.cell? ⟨w.heap.size, k, none⟩ = some (.int .i64 (((mixL xs ys 1).take k ++ List.replicate (n' - k) 0).getD k 0)) := HO.out.cellAt (cI_get _ _ (by simp [mixL_length]; have := hlen.out; omega))
      have hf := HO.out.free (by omega) k
      have HO2 := Lib.hid (HO.out.set k (.int .i64 ((mixL xs ys 1).getD k 0)))
      rw [cI_set, copy_step (by rw [mixL_length, hlen.out]) hlt, mixL_get _ _ _ _ (by have := hlen.out; omega), ← HX.out, ← HY.out, Int.mul_one] at HO2
      have HB2 := Lib.hid (HB.out.setCell (p := ⟨w.heap.size, k, none⟩) (Nat.le_refl _) (.int .i64 ((x + y) % 113)))
      clear hx0 hy0 HO HB
      go_wp2_with (first | (go_at_call 107; refine (i_plus _ _ _ x0 x1 y0 y1).mono ?_; rintro e w' ⟨rfl, rfl⟩) | go_in)
      go_roundw
      case rel => exact ⟨k + 1, by omega, by go_num, HO2, HB2⟩
      case measure => simp [intOf] <;> omega
    · have hkn : k = n' := by omega
      have HO2 : Hid (OwIntS wr w.heap.size wr.heap.size (.slice (some ⟨w.heap.size, 0, none⟩) n' n') (mixL xs ys 1)) := Lib.hid (by
        have := HO.out
        rw [hkn, List.take_of_length_le (by rw [mixL_length, hlen.out]; omega), Nat.sub_self, List.replicate_zero, List.append_nil] at this
        exact ⟨by rw [mixL_length, hlen.out]; omega, _, _, _, rfl, own_wide this⟩)
      clear HO hkn
      go_wp2
      go_ret
      exact ⟨_, _, rfl, HO2.out, HB.out⟩

set_option maxHeartbeats 2000000 in
theorem i_timesV (A : Option Addr) (n c : Nat) (xs : List Int) (t : Int) (w : World) (h : Rd w w.heap.size 1 A n (cI xs)) (hN : Nums xs) (hn : n ≤ 7) (t0 : 0 ≤ t) (t1 : t ≤ 112) :
    Calls Try.prog 108 #[.slice A n c, .int .i64 t] w fun e w' => ∃ A3 c3, e = .returned (.slice A3 n c3) ∧ OwIntS w' w.heap.size w'.heap.size (.slice A3 n c3) (scaL xs t) ∧ Below w.heap.size w w' := by
  have hmk := fun W => run_make1 (P := Try.prog) Try.underlying84 info_int rfl n (by omega) (by omega) W
  have hlen : Hid (xs.length = n) := Lib.hid h.len
  have H := Lib.hid h
  have HN := Lib.hid hN
  clear h hN
  go_enter Try.func108, Try.ntmps108
  go_wp2
  go_loopw [13] (fun i wr => ∃ k : Nat, k ≤ n ∧ i = .int .i64 k ∧ Hid (Ow wr w.heap.size (w.heap.size + 1) 3 1 (some ⟨w.heap.size, 0, none⟩) n n (cI ((scaL xs t).take k ++ List.replicate (n - k) 0))) ∧ Hid (Below w.heap.size w wr)) (fun i _ => n - (intOf i).toNat)
  case atStart => exact ⟨0, Nat.zero_le _, rfl, Lib.hid (by rw [List.take_zero, List.nil_append, Nat.sub_zero, ← cI_zeros]; exact Ow.zeros _ _ _ _), Lib.hid ((Below.refl _ _).alloc (Nat.le_refl _) _)⟩
  case round =>
    obtain ⟨k, hk, rfl, HO, HB⟩ := hrel
    by_cases hlt : k < n
    · obtain ⟨a, x, rfl, hab, hx0, HX⟩ := H.out.intAt hlt
      have hx := (HB.out.cell (p := a.add k) (by rw [add_block]; exact hab)).trans hx0
      have x0 : 0 ≤ x := by rw [HX.out]; exact (HN.out k).1
      have x1 : x ≤ 112 := by rw [HX.out]; exact (HN.out k).2
      have hd : wr.cell? ⟨w.heap.size, k, none⟩ = some (.int .i64 (((scaL xs t).take k ++ List.replicate (n - k) 0).getD k 0)) := HO.out.cellAt (cI_get _ _ (by simp [scaL_length]; have := hlen.out; omega))
      have hf := HO.out.free (by omega) k
      have HO2 := Lib.hid (HO.out.set k (.int .i64 ((scaL xs t).getD k 0)))
      rw [cI_set, copy_step (by rw [scaL_length, hlen.out]) hlt, scaL_get _ _ _ (by have := hlen.out; omega), ← HX.out] at HO2
      have HB2 := Lib.hid (HB.out.setCell (p := ⟨w.heap.size, k, none⟩) (Nat.le_refl _) (.int .i64 (x * t % 113)))
      clear hx0 HO HB
      go_wp2_with (first | (go_at_call 66; refine (i_times _ _ _ x0 x1 t0 t1).mono ?_; rintro e w' ⟨rfl, rfl⟩) | go_in)
      go_roundw
      case rel => exact ⟨k + 1, by omega, by go_num, HO2, HB2⟩
      case measure => simp [intOf] <;> omega
    · have hkn : k = n := by omega
      have HO2 : Hid (OwIntS wr w.heap.size wr.heap.size (.slice (some ⟨w.heap.size, 0, none⟩) n n) (scaL xs t)) := Lib.hid (by
        have := HO.out
        rw [hkn, List.take_of_length_le (by rw [scaL_length, hlen.out]; omega), Nat.sub_self, List.replicate_zero, List.append_nil] at this
        exact ⟨by rw [scaL_length, hlen.out]; omega, _, _, _, rfl, own_wide this⟩)
      clear HO hkn
      go_wp2
      go_ret
      exact ⟨_, _, rfl, HO2.out, HB.out⟩

theorem i_values (a b : Value) (w : World) :
    Calls Try.prog 61 #[.agg #[a, b]] w fun e w' => e = .returned a ∧ Below w.heap.size w w' := by
  go_enter Try.func61, Try.ntmps61
  go_wp2
  go_ret
  exact ⟨rfl, (Below.refl _ _).alloc (Nat.le_refl _) _⟩

set_option maxHeartbeats 1000000 in
theorem i_totalM (A : Option Addr) (n c : Nat) (zs : List Int) (w : World) (h : Rd w w.heap.size 1 A n (cI zs)) (hN : Nums zs) (hn : n ≤ 1048576) :
    Calls Try.prog 79 #[.slice A n c] w fun e w' => e = .returned (.int .i64 (sumI zs)) ∧ w = w' := by
  have hlen : Hid (zs.length = n) := Lib.hid h.len
  have H := Lib.hid h
  have HN := Lib.hid hN
  clear h hN
  go_enter Try.func79, Try.ntmps79
  go_wp2
  go_loop [3, 8] (fun o i => ∃ (k : Nat) (M : Int), k ≤ n ∧ i = .int .i64 k ∧ o = .int .i64 M ∧ 0 ≤ M ∧ M ≤ 112 ∧ Hid (M = sumK zs k)) (fun _ i => n - (intOf i).toNat)
  case atStart => exact ⟨0, 0, Nat.zero_le _, rfl, rfl, by omega, by omega, Lib.hid rfl⟩
  case round =>
    obtain ⟨k, M, hk, rfl, rfl, M0, M1, HM⟩ := hrel
    by_cases hlt : k < n
    · obtain ⟨a, z, rfl, hab, hck, HZ⟩ := H.out.intAt hlt
      have z0 : 0 ≤ z := by rw [HZ.out]; exact (HN.out k).1
      have z1 : z ≤ 112 := by rw [HZ.out]; exact (HN.out k).2
      have HE : Hid ((M + z) % 113 = sumK zs (k + 1)) := Lib.hid (by rw [sumK, ← HZ.out, HM.out])
      clear HM
      go_wp2_with (first | (go_at_call 107; refine (i_plus _ _ _ M0 M1 z0 z1).mono ?_; rintro e w' ⟨rfl, rfl⟩) | go_in)
      go_round
      case rel => exact ⟨k + 1, (M + z) % 113, by omega, by go_num, rfl, by omega, by omega, HE⟩
      case measure => simp [intOf] <;> omega
    · have hkn : k = n := by omega
      have HF : Hid (M = sumI zs) := Lib.hid (by rw [HM.out, sumI, hlen.out, hkn])
      clear HM hkn
      go_wp2
      go_ret
      exact ⟨ret_i HF.out, rfl⟩

set_option maxHeartbeats 1000000 in
theorem i_sumsToM (a : Int) (A : Option Addr) (n c : Nat) (zs : List Int) (w : World) (h : Rd w w.heap.size 1 A n (cI zs)) (hN : Nums zs) (hn : n ≤ 1000) (a0 : 0 ≤ a) (a1 : a ≤ 112) :
    Calls Try.prog 74 #[.int .i64 a, .slice A n c] w fun e w' => ∃ A' c', e = .returned (.slice A' (1 + n) c') ∧ OwIntS w' w.heap.size w'.heap.size (.slice A' (1 + n) c') (splitL a zs) ∧ Below w.heap.size w w' := by
  have sb := sumI_bd zs
  obtain ⟨S, hS⟩ : ∃ S, Hid (sumI zs = S) := ⟨_, Lib.hid rfl⟩
  rw [hS.out] at sb
  have HE : Hid (splitL a zs = ((a - S) % 113) :: zs) := Lib.hid (by rw [splitL, hS.out])
  have HLIT := Lib.hid (lit_int0 w ((a - S) % 113))
  have HRD : Hid (Rd (w.alloc (.cells #[.int .i64 ((a - S) % 113)] 3)) w.heap.size 1 A n (cI zs)) := Lib.hid (h.below ((Below.refl _ _).alloc (Nat.le_refl _) _))
  have H := Lib.hid h
  have HN := Lib.hid hN
  clear h hN
  go_enter Try.func74, Try.ntmps74
  go_wp2_with fail
  refine (i_totalM _ _ _ _ _ H.out HN.out (by omega)).mono ?_
  rintro e w' ⟨rfl, rfl⟩
  rw [hS.out]
  go_wp2_with fail
  refine (i_minus _ _ _ a0 a1 sb.1 sb.2).mono ?_
  rintro e w' ⟨rfl, rfl⟩
  go_wp2_with (at_builtin
               refine wpList_append_rd2 rfl (.tmp 11) (.tmp 12) 99 22 3 rfl w.heap.size 3 _ 1 8 Try.underlying99 Try.underlying22 info_int rfl (by decide) (.slice (some ⟨w.heap.size, 0, none⟩) 1 1) 1 [.int .i64 ((a - S) % 113)] rfl HLIT.out _ A n c (cI zs) rfl HRD.out (cI_one _) (by unfold maxLen; omega) (by omega) (by simp) ?_
               intro v5 w5 hown hgr hat
               have HO5 : Hid (∃ A c, v5 = .slice A (1 + n) c ∧ OwIntS w5 w.heap.size w5.heap.size (.slice A (1 + n) c) (splitL a zs)) := Lib.hid (by rw [HE.out]; exact own_fin (ys := ((a - S) % 113) :: zs) hown (by omega))
               have HB5 : Hid (Below w.heap.size w w5) := Lib.hid (below_grown ((Below.refl _ _).alloc (Nat.le_refl _) _) hgr (fun g e => by simp [Value.ownBlock] at e; omega) (by simp))
               clear hown hgr hat)
  obtain ⟨A5, c5, rfl, ho5⟩ := HO5.out
  go_ret
  exact ⟨_, _, rfl, ho5, HB5.out⟩

set_option maxHeartbeats 2000000 in
theorem i_plusM (A A' : Option Addr) (n c n' c' : Nat) (xs ys : List Int) (w : World) (h : Rd w w.heap.size 1 A n (cI xs)) (h' : Rd w w.heap.size 1 A' n' (cI ys)) (hN : Nums xs) (hM : Nums ys) (hn : n ≤ 7) (hnn : n' = n) :
    Calls Try.prog 106 #[.slice A n c, .slice A' n' c'] w fun e w' => ∃ A3 c3, e = .returned (.slice A3 n c3) ∧ OwIntS w' w.heap.size w'.heap.size (.slice A3 n c3) (mixL xs ys 1) ∧ Below w.heap.size w w' := by
  subst hnn
  have hmk := fun W => run_make1 (P := Try.prog) Try.underlying99 info_int rfl n' (by omega) (by omega) W
  have hlen : Hid (xs.length = n') := Lib.hid h.len
  have H := Lib.hid h
  have H' := Lib.hid h'
  have HN := Lib.hid hN
  have HM := Lib.hid hM
  clear h h' hN hM
  go_enter Try.func106, Try.ntmps106
  go_wp2
  go_loopw [13] (fun i wr => ∃ k : Nat, k ≤ n' ∧ i = .int .i64 k ∧ Hid (Ow wr w.heap.size (w.heap.size + 1) 3 1 (some ⟨w.heap.size, 0, none⟩) n' n' (cI ((mixL xs ys 1).take k ++ List.replicate (n' - k) 0))) ∧ Hid (Below w.heap.size w wr)) (fun i _ => n' - (intOf i).toNat)
  case atStart => exact ⟨0, Nat.zero_le _, rfl, Lib.hid (by rw [List.take_zero, List.nil_append, Nat.sub_zero, ← cI_zeros]; exact Ow.zeros _ _ _ _), Lib.hid ((Below.refl _ _).alloc (Nat.le_refl _) _)⟩
  case round =>
    obtain ⟨k, hk, rfl, HO, HB⟩ := hrel
    by_cases hlt : k < n'
    · obtain ⟨a, x, rfl, hab, hx0, HX⟩ := H.out.intAt hlt
      obtain ⟨a', y, rfl, hab', hy0, HY⟩ := H'.out.intAt hlt
      have hx := (HB.out.cell (p := a.add k) (by rw [add_block]; exact hab)).trans hx0
      have hy := (HB.out.cell (p := a'.add k) (by rw [add_block]; exact hab')).trans hy0
      have x0 : 0 ≤ x := by rw [HX.out]; exact (HN.out k).1
      have x1 : x ≤ 112 := by rw [HX.out]; exact (HN.out k).2
      have y0 : 0 ≤ y := by rw [HY.out]; exact (HM.out k).1
      have y1 : y ≤ 112 := by rw [HY.out]; exact (HM.out k).2
      have hd : wr.cell? ⟨w.heap.size, k, none⟩ = some (.int .i64 (((mixL xs ys 1).take k ++ List.replicate (n' - k) 0).getD k 0)) := HO.out.cellAt (cI_get _ _ (by simp [mixL_length]; have := hlen.out; omega))
      have hf := HO.out.free (by omega) k
      have HO2 := Lib.hid (HO.out.set k (.int .i64 ((mixL xs ys 1).getD k 0)))
      rw [cI_set, copy_step (by rw [mixL_length, hlen.out]) hlt, mixL_get _ _ _ _ (by have := hlen.out; omega), ← HX.out, ← HY.out, Int.mul_one] at HO2
      have HB2 := Lib.hid (HB.out.setCell (p := ⟨w.heap.size, k, none⟩) (Nat.le_refl _) (.int .i64 ((x + y) % 113)))
      clear hx0 hy0 HO HB
      go_wp2_with (first | (go_at_call 107; refine (i_plus _ _ _ x0 x1 y0 y1).mono ?_; rintro e w' ⟨rfl, rfl⟩) | go_in)
      go_roundw
      case rel => exact ⟨k + 1, by omega, by go_num, HO2, HB2⟩
      case measure => simp [intOf] <;> omega
    · have hkn : k = n' := by omega
      have HO2 : Hid (OwIntS wr w.heap.size wr.heap.size (.slice (some ⟨w.heap.size, 0, none⟩) n' n') (mixL xs ys 1)) := Lib.hid (by
        have := HO.out
        rw [hkn, List.take_of_length_le (by rw [mixL_length, hlen.out]; omega), Nat.sub_self, List.replicate_zero, List.append_nil] at this
        exact ⟨by rw [mixL_length, hlen.out]; omega, _, _, _, rfl, own_wide this⟩)
      clear HO hkn
      go_wp2
      go_ret
      exact ⟨_, _, rfl, HO2.out, HB.out⟩

set_option maxHeartbeats 2000000 in
theorem i_timesM (A : Option Addr) (n c : Nat) (xs : List Int) (t : Int) (w : World) (h : Rd w w.heap.size 1 A n (cI xs)) (hN : Nums xs) (hn : n ≤ 7) (t0 : 0 ≤ t) (t1 : t ≤ 112) :
    Calls Try.prog 109 #[.slice A n c, .int .i64 t] w fun e w' => ∃ A3 c3, e = .returned (.slice A3 n c3) ∧ OwIntS w' w.heap.size w'.heap.size (.slice A3 n c3) (scaL xs t) ∧ Below w.heap.size w w' := by
  have hmk := fun W => run_make1 (P := Try.prog) Try.underlying99 info_int rfl n (by omega) (by omega) W
  have hlen : Hid (xs.length = n) := Lib.hid h.len
  have H := Lib.hid h
  have HN := Lib.hid hN
  clear h hN
  go_enter Try.func109, Try.ntmps109
  go_wp2
  go_loopw [13] (fun i wr => ∃ k : Nat, k ≤ n ∧ i = .int .i64 k ∧ Hid (Ow wr w.heap.size (w.heap.size + 1) 3 1 (some ⟨w.heap.size, 0, none⟩) n n (cI ((scaL xs t).take k ++ List.replicate (n - k) 0))) ∧ Hid (Below w.heap.size w wr)) (fun i _ => n - (intOf i).toNat)
  case atStart => exact ⟨0, Nat.zero_le _, rfl, Lib.hid (by rw [List.take_zero, List.nil_append, Nat.sub_zero, ← cI_zeros]; exact Ow.zeros _ _ _ _), Lib.hid ((Below.refl _ _).alloc (Nat.le_refl _) _)⟩
  case round =>
    obtain ⟨k, hk, rfl, HO, HB⟩ := hrel
    by_cases hlt : k < n
    · obtain ⟨a, x, rfl, hab, hx0, HX⟩ := H.out.intAt hlt
      have hx := (HB.out.cell (p := a.add k) (by rw [add_block]; exact hab)).trans hx0
      have x0 : 0 ≤ x := by rw [HX.out]; exact (HN.out k).1
      have x1 : x ≤ 112 := by rw [HX.out]; exact (HN.out k).2
      have hd : wr.cell? ⟨w.heap.size, k, none⟩ = some (.int .i64 (((scaL xs t).take k ++ List.replicate (n - k) 0).getD k 0)) := HO.out.cellAt (cI_get _ _ (by simp [scaL_length]; have := hlen.out; omega))
      have hf := HO.out.free (by omega) k
      have HO2 := Lib.hid (HO.out.set k (.int .i64 ((scaL xs t).getD k 0)))
      rw [cI_set, copy_step (by rw [scaL_length, hlen.out]) hlt, scaL_get _ _ _ (by have := hlen.out; omega), ← HX.out] at HO2
      have HB2 := Lib.hid (HB.out.setCell (p := ⟨w.heap.size, k, none⟩) (Nat.le_refl _) (.int .i64 (x * t % 113)))
      clear hx0 HO HB
      go_wp2_with (first | (go_at_call 66; refine (i_times _ _ _ x0 x1 t0 t1).mono ?_; rintro e w' ⟨rfl, rfl⟩) | go_in)
      go_roundw
      case rel => exact ⟨k + 1, by omega, by go_num, HO2, HB2⟩
      case measure => simp [intOf] <;> omega
    · have hkn : k = n := by omega
      have HO2 : Hid (OwIntS wr w.heap.size wr.heap.size (.slice (some ⟨w.heap.size, 0, none⟩) n n) (scaL xs t)) := Lib.hid (by
        have := HO.out
        rw [hkn, List.take_of_length_le (by rw [scaL_length, hlen.out]; omega), Nat.sub_self, List.replicate_zero, List.append_nil] at this
        exact ⟨by rw [scaL_length, hlen.out]; omega, _, _, _, rfl, own_wide this⟩)
      clear HO hkn
      go_wp2
      go_ret
      exact ⟨_, _, rfl, HO2.out, HB.out⟩

theorem i_marks (a b : Value) (w : World) :
    Calls Try.prog 78 #[.agg #[a, b]] w fun e w' => e = .returned b ∧ Below w.heap.size w w' := by
  go_enter Try.func78, Try.ntmps78
  go_wp2
  go_ret
  exact ⟨rfl, (Below.refl _ _).alloc (Nat.le_refl _) _⟩
end Go.Proofs.Ytpejigfndkdhcaa

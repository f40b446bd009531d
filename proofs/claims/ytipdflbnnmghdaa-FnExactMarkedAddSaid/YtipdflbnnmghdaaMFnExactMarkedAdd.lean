import Derived.Test.YtipdflbnnmghdaaWalk10a
import Derived.Test.YtipdflbnnmghdaaMany
import Derived.Test.YtipdflbnnmghdaaWalk2b
import Derived.Deep.Cut
import Derived.StillTailTactics
import Derived.Test.YtipdflbnnmghdaaFaceP
import Derived.Test.YtipdflbnnmghdaaSS2
import Derived.Test.YtipdflbnnmghdaaWalk5d
import Derived.Test.YtipdflbnnmghdaaLaw
import Derived.Lib.SmallJoins
import Derived.Test.YtipdflbnnmghdaaCircuit
/- Chapter 10 in the program: sums of either kind. Made by tools/gen10/sums.py. -/
namespace Go.Proofs.Ytipdflbnnmghdaa
open Go.RowKit
set_option maxRecDepth 100000

/-- a block of one's own: it is in the world -/
theorem own_wide {w : World} {lo hi n c : Nat} {A : Option Addr} {zs : List Int} (h : Ow w lo hi 3 1 A n c (cI zs)) : Ow w lo w.heap.size 3 1 A n c (cI zs) := by
  refine ⟨h.1, h.2.1, ?_⟩
  rcases h.2.2 with h0 | ⟨g, cs, rfl, a, b, hb, r⟩
  · exact .inl h0
  · exact .inr ⟨g, cs, rfl, a, (Array.getElem?_eq_some_iff.1 hb).1, hb, r⟩

set_option maxHeartbeats 1000000 in
theorem i_totalV (A : Option Addr) (n c : Nat) (zs : List Int) (w : World) (h : Rd w w.heap.size 1 A n (cI zs)) (hN : Nums zs) (hn : n ≤ 1048576) :
    Calls Try.prog 104 #[.slice A n c] w fun e w' => e = .returned (.int .i64 (sumI zs)) ∧ w = w' := by
  have hlen : Hid (zs.length = n) := Lib.hid h.len
  have H := Lib.hid h
  have HN := Lib.hid hN
  clear h hN
  go_enter Try.func104, Try.ntmps104
  go_wp2
  go_loop [3, 8] (fun o i => ∃ (k : Nat) (M : Int), k ≤ n ∧ i = .int .i64 k ∧ o = .int .i64 M ∧ 0 ≤ M ∧ M ≤ 112 ∧ Hid (M = sumK zs k)) (fun _ i => n - (intOf i).toNat)
  case atStart => exact ⟨0, 0, Nat.zero_le _, rfl, rfl, by omega, by omega, Lib.hid rfl⟩
  case round =>
    obtain ⟨k, M, hk, rfl, rfl, M0, M1, HM⟩ := hrel
    by_cases hlt : k < n
    · obtain ⟨a, z, rfl, hab, hck, HZ⟩ := H.out.intAt hlt
      have z0 : 0 ≤ z := by rw [HZ.out]; exact (HN.out k).1
      have z1 : z ≤ 112 := by rw [HZ.out]; exact (HN.out k).2
      have HE : Hid ((M + z) % 113 = sumK zs (k + 1)) := Lib.hid (by rw [sumK, ← HZ.out, HM.out])
      clear HM
      go_wp2_with (first | (go_at_call 143; refine (i_plus _ _ _ M0 M1 z0 z1).mono ?_; rintro e w' ⟨rfl, rfl⟩) | go_in)
      go_round
      case rel => exact ⟨k + 1, (M + z) % 113, by omega, by go_num, rfl, by omega, by omega, HE⟩
      case measure => simp [intOf] <;> omega
    · have hkn : k = n := by omega
      have HF : Hid (M = sumI zs) := Lib.hid (by rw [HM.out, sumI, hlen.out, hkn])
      clear HM hkn
      go_wp2
      go_ret
      exact ⟨ret_i HF.out, rfl⟩

set_option maxHeartbeats 2000000 in
theorem i_plusV (A A' : Option Addr) (n c n' c' : Nat) (xs ys : List Int) (w : World) (h : Rd w w.heap.size 1 A n (cI xs)) (h' : Rd w w.heap.size 1 A' n' (cI ys)) (hN : Nums xs) (hM : Nums ys) (hn : n ≤ 7) (hnn : n' = n) :
    Calls Try.prog 141 #[.slice A n c, .slice A' n' c'] w fun e w' => ∃ A3 c3, e = .returned (.slice A3 n c3) ∧ OwIntS w' w.heap.size w'.heap.size (.slice A3 n c3) (mixL xs ys 1) ∧ Below w.heap.size w w' := by
  subst hnn
  have hmk := fun W => run_make1 (P := Try.prog) Try.underlying138 info_int rfl n' (by omega) (by omega) W
  have hlen : Hid (xs.length = n') := Lib.hid h.len
  have H := Lib.hid h
  have H' := Lib.hid h'
  have HN := Lib.hid hN
  have HM := Lib.hid hM
  clear h h' hN hM
  go_enter Try.func141, Try.ntmps141
  go_wp2
  go_loopw [13] (fun i wr => ∃ k : Nat, k ≤ n' ∧ i = .int .i64 k ∧ Hid (Ow wr w.heap.size (w.heap.size + 1) 3 1 (some ⟨w.heap.size, 0, none⟩) n' n' (cI ((mixL xs ys 1).take k ++ List.replicate (n' - k) 0))) ∧ Hid (Below w.heap.size w wr)) (fun i _ => n' - (intOf i).toNat)
  case atStart => exact ⟨0, Nat.zero_le _, rfl, Lib.hid (by rw [List.take_zero, List.nil_append, Nat.sub_zero, ← cI_zeros]; exact Ow.zeros _ _ _ _), Lib.hid ((Below.refl _ _).alloc (Nat.le_refl _) _)⟩
  case round =>
    obtain ⟨k, hk, rfl, HO, HB⟩ := hrel
    by_cases hlt : k < n'
    · obtain ⟨a, x, rfl, hab, hx0, HX⟩ := H.out.intAt hlt
      obtain ⟨a', y, rfl, hab', hy0, HY⟩ := H'.out.intAt hlt
      have hx := (HB.out.cell (p := a.add k) (by rw [add_block]; exact hab)).trans hx0
      have hy := (HB.out.cell (p := a'.add k) (by rw [add_block]; exact hab')).trans hy0
      have x0 : 0 ≤ x := by rw [HX.out]; exact (HN.out k).1
      have x1 : x ≤ 112 := by rw [HX.out]; exact (HN.out k).2
      have y0 : 0 ≤ y := by rw [HY.out]; exact (HM.out k).1
      have y1 : y ≤ 112 := by rw [HY.out]; exact (HM.out k).2
      have hd : wr.cell? ⟨w.heap.size, k, none⟩ = some (.int .i64 (((mixL xs ys 1).take k ++ List.replicate (n' - k) 0).getD k 0)) := HO.out.cellAt (cI_get _ _ (by simp [mixL_length]; have := hlen.out; omega))
      have hf := HO.out.free (by omega) k
      have HO2 := Lib.hid (HO.out.set k (.int .i64 ((mixL xs ys 1).getD k 0)))
      rw [cI_set, copy_step (by rw [mixL_length, hlen.out]) hlt, mixL_get _ _ _ _ (by have := hlen.out; omega), ← HX.out, ← HY.out, Int.mul_one] at HO2
      have HB2 := Lib.hid (HB.out.setCell (p := ⟨w.heap.size, k, none⟩) (Nat.le_refl _) (.int .i64 ((x + y) % 113)))
      clear hx0 hy0 HO HB
      go_wp2_with (first | (go_at_call 143; refine (i_plus _ _ _ x0 x1 y0 y1).mono ?_; rintro e w' ⟨rfl, rfl⟩) | go_in)
      go_roundw
      case rel => exact ⟨k + 1, by omega, by go_num, HO2, HB2⟩
      case measure => simp [intOf] <;> omega
    · have hkn : k = n' := by omega
      have HO2 : Hid (OwIntS wr w.heap.size wr.heap.size (.slice (some ⟨w.heap.size, 0, none⟩) n' n') (mixL xs ys 1)) := Lib.hid (by
        have := HO.out
        rw [hkn, List.take_of_length_le (by rw [mixL_length, hlen.out]; omega), Nat.sub_self, List.replicate_zero, List.append_nil] at this
        exact ⟨by rw [mixL_length, hlen.out]; omega, _, _, _, rfl, own_wide this⟩)
      clear HO hkn
      go_wp2
      go_ret
      exact ⟨_, _, rfl, HO2.out, HB.out⟩

set_option maxHeartbeats 2000000 in
theorem i_timesV (A : Option Addr) (n c : Nat) (xs : List Int) (t : Int) (w : World) (h : Rd w w.heap.size 1 A n (cI xs)) (hN : Nums xs) (hn : n ≤ 7) (t0 : 0 ≤ t) (t1 : t ≤ 112) :
    Calls Try.prog 144 #[.slice A n c, .int .i64 t] w fun e w' => ∃ A3 c3, e = .returned (.slice A3 n c3) ∧ OwIntS w' w.heap.size w'.heap.size (.slice A3 n c3) (scaL xs t) ∧ Below w.heap.size w w' := by
  have hmk := fun W => run_make1 (P := Try.prog) Try.underlying138 info_int rfl n (by omega) (by omega) W
  have hlen : Hid (xs.length = n) := Lib.hid h.len
  have H := Lib.hid h
  have HN := Lib.hid hN
  clear h hN
  go_enter Try.func144, Try.ntmps144
  go_wp2
  go_loopw [13] (fun i wr => ∃ k : Nat, k ≤ n ∧ i = .int .i64 k ∧ Hid (Ow wr w.heap.size (w.heap.size + 1) 3 1 (some ⟨w.heap.size, 0, none⟩) n n (cI ((scaL xs t).take k ++ List.replicate (n - k) 0))) ∧ Hid (Below w.heap.size w wr)) (fun i _ => n - (intOf i).toNat)
  case atStart => exact ⟨0, Nat.zero_le _, rfl, Lib.hid (by rw [List.take_zero, List.nil_append, Nat.sub_zero, ← cI_zeros]; exact Ow.zeros _ _ _ _), Lib.hid ((Below.refl _ _).alloc (Nat.le_refl _) _)⟩
  case round =>
    obtain ⟨k, hk, rfl, HO, HB⟩ := hrel
    by_cases hlt : k < n
    · obtain ⟨a, x, rfl, hab, hx0, HX⟩ := H.out.intAt hlt
      have hx := (HB.out.cell (p := a.add k) (by rw [add_block]; exact hab)).trans hx0
      have x0 : 0 ≤ x := by rw [HX.out]; exact (HN.out k).1
      have x1 : x ≤ 112 := by rw [HX.out]; exact (HN.out k).2
      have hd : wr.cell? ⟨w.heap.size, k, none⟩ = some (.int .i64 (((scaL xs t).take k ++ List.replicate (n - k) 0).getD k 0)) := HO.out.cellAt (cI_get _ _ (by simp [scaL_length]; have := hlen.out; omega))
      have hf := HO.out.free (by omega) k
      have HO2 := Lib.hid (HO.out.set k (.int .i64 ((scaL xs t).getD k 0)))
      rw [cI_set, copy_step (by rw [scaL_length, hlen.out]) hlt, scaL_get _ _ _ (by have := hlen.out; omega), ← HX.out] at HO2
      have HB2 := Lib.hid (HB.out.setCell (p := ⟨w.heap.size, k, none⟩) (Nat.le_refl _) (.int .i64 (x * t % 113)))
      clear hx0 HO HB
      go_wp2_with (first | (go_at_call 108; refine (i_times _ _ _ x0 x1 t0 t1).mono ?_; rintro e w' ⟨rfl, rfl⟩) | go_in)
      go_roundw
      case rel => exact ⟨k + 1, by omega, by go_num, HO2, HB2⟩
      case measure => simp [intOf] <;> omega
    · have hkn : k = n := by omega
      have HO2 : Hid (OwIntS wr w.heap.size wr.heap.size (.slice (some ⟨w.heap.size, 0, none⟩) n n) (scaL xs t)) := Lib.hid (by
        have := HO.out
        rw [hkn, List.take_of_length_le (by rw [scaL_length, hlen.out]; omega), Nat.sub_self, List.replicate_zero, List.append_nil] at this
        exact ⟨by rw [scaL_length, hlen.out]; omega, _, _, _, rfl, own_wide this⟩)
      clear HO hkn
      go_wp2
      go_ret
      exact ⟨_, _, rfl, HO2.out, HB.out⟩

theorem i_values (a b : Value) (w : World) :
    Calls Try.prog 103 #[.agg #[a, b]] w fun e w' => e = .returned a ∧ Below w.heap.size w w' := by
  go_enter Try.func103, Try.ntmps103
  go_wp2
  go_ret
  exact ⟨rfl, (Below.refl _ _).alloc (Nat.le_refl _) _⟩

set_option maxHeartbeats 1000000 in
theorem i_totalM (A : Option Addr) (n c : Nat) (zs : List Int) (w : World) (h : Rd w w.heap.size 1 A n (cI zs)) (hN : Nums zs) (hn : n ≤ 1048576) :
    Calls Try.prog 112 #[.slice A n c] w fun e w' => e = .returned (.int .i64 (sumI zs)) ∧ w = w' := by
  have hlen : Hid (zs.length = n) := Lib.hid h.len
  have H := Lib.hid h
  have HN := Lib.hid hN
  clear h hN
  go_enter Try.func112, Try.ntmps112
  go_wp2
  go_loop [3, 8] (fun o i => ∃ (k : Nat) (M : Int), k ≤ n ∧ i = .int .i64 k ∧ o = .int .i64 M ∧ 0 ≤ M ∧ M ≤ 112 ∧ Hid (M = sumK zs k)) (fun _ i => n - (intOf i).toNat)
  case atStart => exact ⟨0, 0, Nat.zero_le _, rfl, rfl, by omega, by omega, Lib.hid rfl⟩
  case round =>
    obtain ⟨k, M, hk, rfl, rfl, M0, M1, HM⟩ := hrel
    by_cases hlt : k < n
    · obtain ⟨a, z, rfl, hab, hck, HZ⟩ := H.out.intAt hlt
      have z0 : 0 ≤ z := by rw [HZ.out]; exact (HN.out k).1
      have z1 : z ≤ 112 := by rw [HZ.out]; exact (HN.out k).2
      have HE : Hid ((M + z) % 113 = sumK zs (k + 1)) := Lib.hid (by rw [sumK, ← HZ.out, HM.out])
      clear HM
      go_wp2_with (first | (go_at_call 143; refine (i_plus _ _ _ M0 M1 z0 z1).mono ?_; rintro e w' ⟨rfl, rfl⟩) | go_in)
      go_round
      case rel => exact ⟨k + 1, (M + z) % 113, by omega, by go_num, rfl, by omega, by omega, HE⟩
      case measure => simp [intOf] <;> omega
    · have hkn : k = n := by omega
      have HF : Hid (M = sumI zs) := Lib.hid (by rw [HM.out, sumI, hlen.out, hkn])
      clear HM hkn
      go_wp2
      go_ret
      exact ⟨ret_i HF.out, rfl⟩

set_option maxHeartbeats 2000000 in
theorem i_plusM (A A' : Option Addr) (n c n' c' : Nat) (xs ys : List Int) (w : World) (h : Rd w w.heap.size 1 A n (cI xs)) (h' : Rd w w.heap.size 1 A' n' (cI ys)) (hN : Nums xs) (hM : Nums ys) (hn : n ≤ 7) (hnn : n' = n) :
    Calls Try.prog 142 #[.slice A n c, .slice A' n' c'] w fun e w' => ∃ A3 c3, e = .returned (.slice A3 n c3) ∧ OwIntS w' w.heap.size w'.heap.size (.slice A3 n c3) (mixL xs ys 1) ∧ Below w.heap.size w w' := by
  subst hnn
  have hmk := fun W => run_make1 (P := Try.prog) Try.underlying147 info_int rfl n' (by omega) (by omega) W
  have hlen : Hid (xs.length = n') := Lib.hid h.len
  have H := Lib.hid h
  have H' := Lib.hid h'
  have HN := Lib.hid hN
  have HM := Lib.hid hM
  clear h h' hN hM
  go_enter Try.func142, Try.ntmps142
  go_wp2
  go_loopw [13] (fun i wr => ∃ k : Nat, k ≤ n' ∧ i = .int .i64 k ∧ Hid (Ow wr w.heap.size (w.heap.size + 1) 3 1 (some ⟨w.heap.size, 0, none⟩) n' n' (cI ((mixL xs ys 1).take k ++ List.replicate (n' - k) 0))) ∧ Hid (Below w.heap.size w wr)) (fun i _ => n' - (intOf i).toNat)
  case atStart => exact ⟨0, Nat.zero_le _, rfl, Lib.hid (by rw [List.take_zero, List.nil_append, Nat.sub_zero, ← cI_zeros]; exact Ow.zeros _ _ _ _), Lib.hid ((Below.refl _ _).alloc (Nat.le_refl _) _)⟩
  case round =>
    obtain ⟨k, hk, rfl, HO, HB⟩ := hrel
    by_cases hlt : k < n'
    · obtain ⟨a, x, rfl, hab, hx0, HX⟩ := H.out.intAt hlt
      obtain ⟨a', y, rfl, hab', hy0, HY⟩ := H'.out.intAt hlt
      have hx := (HB.out.cell (p := a.add k) (by rw [add_block]; exact hab)).trans hx0
      have hy := (HB.out.cell (p := a'.add k) (by rw [add_block]; exact hab')).trans hy0
      have x0 : 0 ≤ x := by rw [HX.out]; exact (HN.out k).1
      have x1 : x ≤ 112 := by rw [HX.out]; exact (HN.out k).2
      have y0 : 0 ≤ y := by rw [HY.out]; exact (HM.out k).1
      have y1 : y ≤ 112 := by rw [HY.out]; exact (HM.out k).2
      have hd : wr.cell? ⟨w.heap.size, k, none⟩ = some (.int .i64 (((mixL xs ys 1).take k ++ List.replicate (n' - k) 0).getD k 0)) := HO.out.cellAt (cI_get _ _ (by simp [mixL_length]; have := hlen.out; omega))
      have hf := HO.out.free (by omega) k
      have HO2 := Lib.hid (HO.out.set k (.int .i64 ((mixL xs ys 1).getD k 0)))
      rw [cI_set, copy_step (by rw [mixL_length, hlen.out]) hlt, mixL_get _ _ _ _ (by have := hlen.out; omega), ← HX.out, ← HY.out, Int.mul_one] at HO2
      have HB2 := Lib.hid (HB.out.setCell (p := ⟨w.heap.size, k, none⟩) (Nat.le_refl _) (.int .i64 ((x + y) % 113)))
      clear hx0 hy0 HO HB
      go_wp2_with (first | (go_at_call 143; refine (i_plus _ _ _ x0 x1 y0 y1).mono ?_; rintro e w' ⟨rfl, rfl⟩) | go_in)
      go_roundw
      case rel => exact ⟨k + 1, by omega, by go_num, HO2, HB2⟩
      case measure => simp [intOf] <;> omega
    · have hkn : k = n' := by omega
      have HO2 : Hid (OwIntS wr w.heap.size wr.heap.size (.slice (some ⟨w.heap.size, 0, none⟩) n' n') (mixL xs ys 1)) := Lib.hid (by
        have := HO.out
        rw [hkn, List.take_of_length_le (by rw [mixL_length, hlen.out]; omega), Nat.sub_self, List.replicate_zero, List.append_nil] at this
        exact ⟨by rw [mixL_length, hlen.out]; omega, _, _, _, rfl, own_wide this⟩)
      clear HO hkn
      go_wp2
      go_ret
      exact ⟨_, _, rfl, HO2.out, HB.out⟩

set_option maxHeartbeats 2000000 in
theorem i_timesM (A : Option Addr) (n c : Nat) (xs : List Int) (t : Int) (w : World) (h : Rd w w.heap.size 1 A n (cI xs)) (hN : Nums xs) (hn : n ≤ 7) (t0 : 0 ≤ t) (t1 : t ≤ 112) :
    Calls Try.prog 145 #[.slice A n c, .int .i64 t] w fun e w' => ∃ A3 c3, e = .returned (.slice A3 n c3) ∧ OwIntS w' w.heap.size w'.heap.size (.slice A3 n c3) (scaL xs t) ∧ Below w.heap.size w w' := by
  have hmk := fun W => run_make1 (P := Try.prog) Try.underlying147 info_int rfl n (by omega) (by omega) W
  have hlen : Hid (xs.length = n) := Lib.hid h.len
  have H := Lib.hid h
  have HN := Lib.hid hN
  clear h hN
  go_enter Try.func145, Try.ntmps145
  go_wp2
  go_loopw [13] (fun i wr => ∃ k : Nat, k ≤ n ∧ i = .int .i64 k ∧ Hid (Ow wr w.heap.size (w.heap.size + 1) 3 1 (some ⟨w.heap.size, 0, none⟩) n n (cI ((scaL xs t).take k ++ List.replicate (n - k) 0))) ∧ Hid (Below w.heap.size w wr)) (fun i _ => n - (intOf i).toNat)
  case atStart => exact ⟨0, Nat.zero_le _, rfl, Lib.hid (by rw [List.take_zero, List.nil_append, Nat.sub_zero, ← cI_zeros]; exact Ow.zeros _ _ _ _), Lib.hid ((Below.refl _ _).alloc (Nat.le_refl _) _)⟩
  case round =>
    obtain ⟨k, hk, rfl, HO, HB⟩ := hrel
    by_cases hlt : k < n
    · obtain ⟨a, x, rfl, hab, hx0, HX⟩ := H.out.intAt hlt
      have hx := (HB.out.cell (p := a.add k) (by rw [add_block]; exact hab)).trans hx0
      have x0 : 0 ≤ x := by rw [HX.out]; exact (HN.out k).1
      have x1 : x ≤ 112 := by rw [HX.out]; exact (HN.out k).2
      have hd : wr.cell? ⟨w.heap.size, k, none⟩ = some (.int .i64 (((scaL xs t).take k ++ List.replicate (n - k) 0).getD k 0)) := HO.out.cellAt (cI_get _ _ (by simp [scaL_length]; have := hlen.out; omega))
      have hf := HO.out.free (by omega) k
      have HO2 := Lib.hid (HO.out.set k (.int .i64 ((scaL xs t).getD k 0)))
      rw [cI_set, copy_step (by rw [scaL_length, hlen.out]) hlt, scaL_get _ _ _ (by have := hlen.out; omega), ← HX.out] at HO2
      have HB2 := Lib.hid (HB.out.setCell (p := ⟨w.heap.size, k, none⟩) (Nat.le_refl _) (.int .i64 (x * t % 113)))
      clear hx0 HO HB
      go_wp2_with (first | (go_at_call 108; refine (i_times _ _ _ x0 x1 t0 t1).mono ?_; rintro e w' ⟨rfl, rfl⟩) | go_in)
      go_roundw
      case rel => exact ⟨k + 1, by omega, by go_num, HO2, HB2⟩
      case measure => simp [intOf] <;> omega
    · have hkn : k = n := by omega
      have HO2 : Hid (OwIntS wr w.heap.size wr.heap.size (.slice (some ⟨w.heap.size, 0, none⟩) n n) (scaL xs t)) := Lib.hid (by
        have := HO.out
        rw [hkn, List.take_of_length_le (by rw [scaL_length, hlen.out]; omega), Nat.sub_self, List.replicate_zero, List.append_nil] at this
        exact ⟨by rw [scaL_length, hlen.out]; omega, _, _, _, rfl, own_wide this⟩)
      clear HO hkn
      go_wp2
      go_ret
      exact ⟨_, _, rfl, HO2.out, HB.out⟩

theorem i_marks (a b : Value) (w : World) :
    Calls Try.prog 111 #[.agg #[a, b]] w fun e w' => e = .returned b ∧ Below w.heap.size w w' := by
  go_enter Try.func111, Try.ntmps111
  go_wp2
  go_ret
  exact ⟨rfl, (Below.refl _ _).alloc (Nat.le_refl _) _⟩
end Go.Proofs.Ytipdflbnnmghdaa

/- Chapter 2: PolyAt. -/
namespace Go.Proofs.Ytipdflbnnmghdaa
open Go.RowKit

def polyAtB (zs : List Int) (x : Int) : Bool := polyB zs && numB x
def polyAtV (zs : List Int) (x : Int) : Int := if polyAtB zs x = true then atI zs x else 0
theorem ret_ib2 {k : IntKind} {a b : Int} {c d : Bool} (h : a = b) (h2 : c = d) : Ending.returned (.tuple #[.int k a, .bool c]) = .returned (.tuple #[.int k b, .bool d]) := by rw [h, h2]
theorem polyAt_no {zs : List Int} {x : Int} (h : polyAtB zs x = false) : (0 : Int) = polyAtV zs x := by simp [polyAtV, h]
theorem polyAt_yes {zs : List Int} {x : Int} (h : polyAtB zs x = true) : atI zs x = polyAtV zs x := by simp [polyAtV, h]

end Go.Proofs.Ytipdflbnnmghdaa

/- Chapter 10: MarkedOk, MarkedSum of both sides. -/
namespace Go.Proofs.Ytipdflbnnmghdaa
open Go.RowKit
set_option maxRecDepth 100000

theorem markB_1 {d0 d1 : List Int} (h : inB d0.length 2 7 = false) : markB (d0, d1) = false := by simp [markB, h]
theorem markB_2 {d0 d1 : List Int} (h : d1.length ≠ d0.length) : markB (d0, d1) = false := by simp [markB, h]
theorem markB_3 {d0 d1 : List Int} (h : numsB d0 = false) : markB (d0, d1) = false := by simp [markB, h]
theorem markB_4 {d0 d1 : List Int} (h : numsB d1 = false) : markB (d0, d1) = false := by simp [markB, h]
theorem markB_5 {d0 d1 : List Int} (h1 : inB d0.length 2 7 = true) (h2 : d1.length = d0.length) (h3 : numsB d0 = true) (h4 : numsB d1 = true) : markB (d0, d1) = true := by simp [markB, h1, h2, h3, h4]

set_option maxHeartbeats 4000000 in
theorem s_MarkedOk (A0 : Option Addr) (n0 c0 : Nat) (A1 : Option Addr) (n1 c1 : Nat) (d0 d1 : List Int) (w : World) (h0 : Rd w w.heap.size 1 A0 n0 (cI d0)) (h1 : Rd w w.heap.size 1 A1 n1 (cI d1)) (m0 : n0 ≤ 1048576) (m1 : n1 ≤ 1048576) :
    Calls Try.prog 93 #[.agg #[.slice A0 n0 c0, .slice A1 n1 c1]] w fun e w' => e = .returned (.bool (markB (d0, d1))) ∧ Below w.heap.size w w' := by
  have l0 : Hid (d0.length = n0) := Lib.hid h0.len
  have l1 : Hid (d1.length = n1) := Lib.hid h1.len
  have HB0 : Hid (Below w.heap.size w (w.alloc (.cells #[.slice A0 n0 c0, .slice A1 n1 c1] 67))) := Lib.hid ((Below.refl _ _).alloc (Nat.le_refl _) _)
  have H0 : Hid (Rd (w.alloc (.cells #[.slice A0 n0 c0, .slice A1 n1 c1] 67)) (w.alloc (.cells #[.slice A0 n0 c0, .slice A1 n1 c1] 67)).heap.size 1 A0 n0 (cI d0)) := Lib.hid ((h0.below HB0.out).more (by simp))
  have H1 : Hid (Rd (w.alloc (.cells #[.slice A0 n0 c0, .slice A1 n1 c1] 67)) (w.alloc (.cells #[.slice A0 n0 c0, .slice A1 n1 c1] 67)).heap.size 1 A1 n1 (cI d1)) := Lib.hid ((h1.below HB0.out).more (by simp))
  clear h0 h1
  cases e1 : inB (n0 : Int) 2 7
  · have HF := Lib.hid (markB_1 (d0 := d0) (d1 := d1) (by rw [l0.out]; exact e1))
    go_enter Try.func93, Try.ntmps93
    go_wp2_with fail
    refine (s_l6In _ _ _ _).mono ?_
    rintro e w' ⟨rfl, rfl⟩
    rw [e1]
    go_wp2
    go_ret
    exact ⟨ret_bool HF.out.symm, HB0.out⟩
  by_cases hl : n1 = n0
  rotate_left
  · have HF := Lib.hid (markB_2 (d0 := d0) (d1 := d1) (by rw [l0.out, l1.out]; exact hl))
    have q1 : ((n1 : Int) == (n0 : Int)) = false := by rw [beq_eq_false_iff_ne]; omega
    have q2 : (n1 == n0) = false := by rw [beq_eq_false_iff_ne]; omega
    go_enter Try.func93, Try.ntmps93
    go_wp2_with fail
    refine (s_l6In _ _ _ _).mono ?_
    rintro e w' ⟨rfl, rfl⟩
    rw [e1]
    go_wp2
    go_ret
    exact ⟨ret_bool HF.out.symm, HB0.out⟩
  subst hl
  cases e3 : numsB d0
  · have HF := Lib.hid (markB_3 (d1 := d1) e3)
    go_enter Try.func93, Try.ntmps93
    go_wp2_with fail
    refine (s_l6In _ _ _ _).mono ?_
    rintro e w' ⟨rfl, rfl⟩
    rw [e1]
    go_wp2_with fail
    refine (s_l1In _ _ _ _ _ H0.out m0).mono ?_
    rintro e w' ⟨rfl, rfl⟩
    rw [e3]
    go_wp2
    go_ret
    exact ⟨ret_bool HF.out.symm, HB0.out⟩
  have HF : Hid (markB (d0, d1) = numsB d1) := Lib.hid (by
    cases e4 : numsB d1
    · exact markB_4 e4
    · exact markB_5 (by rw [l0.out]; exact e1) (by rw [l0.out, l1.out]) e3 e4)
  go_enter Try.func93, Try.ntmps93
  go_wp2_with fail
  refine (s_l6In _ _ _ _).mono ?_
  rintro e w' ⟨rfl, rfl⟩
  rw [e1]
  go_wp2_with fail
  refine (s_l1In _ _ _ _ _ H0.out m0).mono ?_
  rintro e w' ⟨rfl, rfl⟩
  rw [e3]
  go_wp2_with fail
  refine (s_l1In _ _ _ _ _ H1.out m1).mono ?_
  rintro e w' ⟨rfl, rfl⟩
  go_wp2
  go_ret
  exact ⟨ret_bool HF.out.symm, HB0.out⟩

set_option maxHeartbeats 4000000 in
theorem i_MarkedOk (A0 : Option Addr) (n0 c0 : Nat) (A1 : Option Addr) (n1 c1 : Nat) (d0 d1 : List Int) (w : World) (h0 : Rd w w.heap.size 1 A0 n0 (cI d0)) (h1 : Rd w w.heap.size 1 A1 n1 (cI d1)) (m0 : n0 ≤ 1048576) (m1 : n1 ≤ 1048576) :
    Calls Try.prog 95 #[.agg #[.slice A0 n0 c0, .slice A1 n1 c1]] w fun e w' => e = .returned (.bool (markB (d0, d1))) ∧ Below w.heap.size w w' := by
  have l0 : Hid (d0.length = n0) := Lib.hid h0.len
  have l1 : Hid (d1.length = n1) := Lib.hid h1.len
  have HB0 : Hid (Below w.heap.size w (w.alloc (.cells #[.slice A0 n0 c0, .slice A1 n1 c1] 67))) := Lib.hid ((Below.refl _ _).alloc (Nat.le_refl _) _)
  have H0 : Hid (Rd (w.alloc (.cells #[.slice A0 n0 c0, .slice A1 n1 c1] 67)) (w.alloc (.cells #[.slice A0 n0 c0, .slice A1 n1 c1] 67)).heap.size 1 A0 n0 (cI d0)) := Lib.hid ((h0.below HB0.out).more (by simp))
  have H1 : Hid (Rd (w.alloc (.cells #[.slice A0 n0 c0, .slice A1 n1 c1] 67)) (w.alloc (.cells #[.slice A0 n0 c0, .slice A1 n1 c1] 67)).heap.size 1 A1 n1 (cI d1)) := Lib.hid ((h1.below HB0.out).more (by simp))
  clear h0 h1
  by_cases e0 : 2 ≤ n0
  rotate_left
  · have HF := Lib.hid (markB_1 (d0 := d0) (d1 := d1) (by rw [l0.out]; exact inB_f (by omega)))
    have q : (n0 : Int) < 2 := by omega
    go_enter Try.func95, Try.ntmps95
    go_wp2
    go_ret
    exact ⟨ret_bool HF.out.symm, HB0.out⟩
  by_cases e1 : n0 ≤ 7
  rotate_left
  · have HF := Lib.hid (markB_1 (d0 := d0) (d1 := d1) (by rw [l0.out]; exact inB_f (by omega)))
    have q : (2 : Int) ≤ n0 := by omega
    have q2 : (7 : Int) < n0 := by omega
    go_enter Try.func95, Try.ntmps95
    go_wp2
    go_ret
    exact ⟨ret_bool HF.out.symm, HB0.out⟩
  have q : (2 : Int) ≤ n0 := by omega
  have q2 : (n0 : Int) ≤ 7 := by omega
  cases e3 : numsB d0
  · have HF := Lib.hid (markB_3 (d1 := d1) e3)
    go_enter Try.func95, Try.ntmps95
    go_wp2_with fail
    refine (i_numbersOk _ _ _ _ _ H0.out m0).mono ?_
    rintro e w' ⟨rfl, rfl⟩
    rw [e3]
    go_wp2
    go_ret
    exact ⟨ret_bool HF.out.symm, HB0.out⟩
  have HF : Hid (markB (d0, d1) = (decide ((n1 : Int) = (n0 : Int)) && numsB d1)) := Lib.hid (by
    have hi : inB (d0.length : Int) 2 7 = true := by rw [l0.out]; exact inB_t ⟨q, q2⟩
    by_cases hl : n1 = n0
    · cases e4 : numsB d1
      · rw [markB_4 e4]; simp
      · rw [markB_5 hi (by rw [l0.out, l1.out, hl]) e3 e4]; simp [hl]
    · rw [markB_2 (by rw [l0.out, l1.out]; exact hl)]; simp; omega)
  go_enter Try.func95, Try.ntmps95
  go_wp2_with fail
  refine (i_numbersOk _ _ _ _ _ H0.out m0).mono ?_
  rintro e w' ⟨rfl, rfl⟩
  rw [e3]
  go_wp2_with fail
  refine (i_manyNumbers _ _ _ _ _ _ H1.out m1).mono ?_
  rintro e w' ⟨rfl, rfl⟩
  go_wp2
  go_ret
  exact ⟨ret_bool HF.out.symm, HB0.out⟩

/-- a struct's value, opened -/
theorem RdMarked.open_ {w : World} {hi : Nat} {v : Value} {d : MkD} (h : RdMarked w hi v d) : ∃ A0 n0 c0 A1 n1 c1, v = .agg #[.slice A0 n0 c0, .slice A1 n1 c1] ∧ Rd w hi 1 A0 n0 (cI d.1) ∧ Rd w hi 1 A1 n1 (cI d.2) ∧ d.1.length = n0 ∧ d.2.length = n1 := by
  obtain ⟨A0, n0, c0, A1, n1, c1, rfl, h0, h1⟩ := h
  obtain ⟨B0, k0, q0, e0, _, r0⟩ := h0
  obtain ⟨B1, k1, q1, e1, _, r1⟩ := h1
  injection e0 with a b c
  injection e1 with a' b' c'
  subst a b c a' b' c'
  exact ⟨_, _, _, _, _, _, rfl, r0, r1, r0.len, r1.len⟩
theorem szM {d : MkD} (hs : szMarked d ≤ 1048576) : d.1.length ≤ 1048576 ∧ d.2.length ≤ 1048576 := by
  unfold szMarked szIntS at hs; omega

theorem X_s_MarkedOk (v : Value) (d : MkD) (w : World) (h : RdMarked w w.heap.size v d) (hs : szMarked d ≤ 1048576) :
    Calls Try.prog 93 #[v] w fun e w' => e = .returned (.bool (markB d)) ∧ Below w.heap.size w w' := by
  obtain ⟨A0, n0, c0, A1, n1, c1, rfl, h0, h1, l0, l1⟩ := h.open_
  have := szM hs
  exact s_MarkedOk A0 n0 c0 A1 n1 c1 d.1 d.2 w h0 h1 (by omega) (by omega)
theorem X_i_MarkedOk (v : Value) (d : MkD) (w : World) (h : RdMarked w w.heap.size v d) (hs : szMarked d ≤ 1048576) :
    Calls Try.prog 95 #[v] w fun e w' => e = .returned (.bool (markB d)) ∧ Below w.heap.size w w' := by
  obtain ⟨A0, n0, c0, A1, n1, c1, rfl, h0, h1, l0, l1⟩ := h.open_
  have := szM hs
  exact i_MarkedOk A0 n0 c0 A1 n1 c1 d.1 d.2 w h0 h1 (by omega) (by omega)

/-- a function that gets a struct has it in a box of its own -/
theorem box_mk (w : World) (A0 : Option Addr) (n0 c0 : Nat) (A1 : Option Addr) (n1 c1 : Nat) : Hid (Bx (w.alloc (.cells #[.slice A0 n0 c0, .slice A1 n1 c1] 67)) w.heap.size #[.slice A0 n0 c0, .slice A1 n1 c1] 67) := Lib.hid (Bx.new _ _ _)
theorem box_hb (w : World) (o : Obj) : Hid (Below w.heap.size w (w.alloc o)) := Lib.hid ((Below.refl _ _).alloc (Nat.le_refl _) _)

def markS (d : MkD) : Int := if markB d = true then sumI d.1 else 0

set_option maxHeartbeats 4000000 in
theorem X_i_MarkedSum (v : Value) (d : MkD) (w : World) (h : RdMarked w w.heap.size v d) (hs : szMarked d ≤ 1048576) :
    Calls Try.prog 51 #[v] w fun e w' => e = .returned (.tuple #[.int .i64 (markS d), .bool (markB d)]) ∧ Below w.heap.size w w' := by
  obtain ⟨A0, n0, c0, A1, n1, c1, rfl, h0, h1, l0, l1⟩ := h.open_
  have hz := szM hs
  have m0 : n0 ≤ 1048576 := by omega
  have m1 : n1 ≤ 1048576 := by omega
  obtain ⟨d0, d1⟩ := d
  have HX0 := box_mk w A0 n0 c0 A1 n1 c1
  have HB0 := box_hb w (.cells #[.slice A0 n0 c0, .slice A1 n1 c1] 67)
  have H0 := Lib.hid h0
  have H1 := Lib.hid h1
  clear h h0 h1 hz hs l0 l1
  go_enter Try.func51, Try.ntmps51
  go_wp2_with fail
  refine (i_MarkedOk A0 n0 c0 A1 n1 c1 d0 d1 _ ((H0.out.below HB0.out).more HB0.out.size) ((H1.out.below HB0.out).more HB0.out.size) m0 m1).mono ?_
  rintro e w2 ⟨rfl, hb⟩
  have HX1 := Lib.hid (HX0.out.below hb HX0.out.lt)
  have HB1 : Hid (Below w.heap.size w w2) := Lib.hid (HB0.out.trans (hb.mono HB0.out.size))
  clear hb HX0 HB0
  cases e1 : markB (d0, d1)
  · have HF : Hid (markS (d0, d1) = 0) := Lib.hid (by simp [markS, e1])
    go_wp2
    go_ret2
    exact ⟨ret_ib2 HF.out.symm e1.symm, HB1.out⟩
  have HF : Hid (markS (d0, d1) = sumI d0) := Lib.hid (by simp [markS, e1])
  have HN : Hid (Nums d0) := Lib.hid (nums_of_B (markB_iff.1 e1).2.2.1)
  have b0 : w2.cell? ⟨w.heap.size, 0, none⟩ = some (.slice A0 n0 c0) := HX1.out.cell 0
  have b1 : w2.cell? ⟨w.heap.size, 1, none⟩ = some (.slice A1 n1 c1) := HX1.out.cell 1
  have HE := Lib.hid e1
  clear e1
  go_wp2_with fail
  refine (i_values _ _ _).mono ?_
  rintro e w3 ⟨rfl, hb⟩
  have HB2 : Hid (Below w.heap.size w w3) := Lib.hid (HB1.out.trans (hb.mono HB1.out.size))
  clear hb b0 b1
  go_wp2_with fail
  refine (i_totalV _ _ _ _ _ ((H0.out.below HB2.out).more HB2.out.size) HN.out m0).mono ?_
  rintro e w' ⟨rfl, rfl⟩
  go_wp2
  go_ret2
  exact ⟨ret_ib2 HF.out.symm HE.out.symm, HB2.out⟩
end Go.Proofs.Ytipdflbnnmghdaa

/- Chapter 10: structs of values and marks. Made by tools/gen10/marks.py. -/
namespace Go.Proofs.Ytipdflbnnmghdaa
open Go.RowKit
set_option maxRecDepth 100000

theorem infoM : (Try.prog.info? 67).map (·.size) = some 2 := by kernel_rfl
theorem resM {fn : Func} {t : Tmp} {tmps : Array Value} {w : World} {g : Nat} {a b : Value} (h : fn.results = #[.cell t 67]) (ht : tmps.getD t undef = .pointer (some ⟨g, 0, none⟩)) (hb : Bx w g #[a, b] 67) :
    (results fn tmps).run Try.prog w = .ok (.agg #[a, b]) w := by
  have hr : w.rangeAt g 0 [a, b] := fun j v hv => by
    rw [Nat.zero_add, cell_of_row w g j _ _ (0, 0) hb]; simpa using hv
  have := run_loadVar_mid (P := Try.prog) w g 0 67 [a, b] _ hr Try.underlying67 rfl infoM
  have ht2 : tmps[t]?.getD undef = .pointer (some ⟨g, 0, none⟩) := by rw [← ht]; simp
  simp [results, h, ht2, this, asAddr]
theorem resM2 {fn : Func} {t u : Tmp} {tmps : Array Value} {w : World} {g : Nat} {a b x : Value} (h : fn.results = #[.cell t 67, .tmp u]) (ht : tmps.getD t undef = .pointer (some ⟨g, 0, none⟩)) (hu : tmps.getD u undef = x) (hb : Bx w g #[a, b] 67) :
    (results fn tmps).run Try.prog w = .ok (.tuple #[.agg #[a, b], x]) w := by
  have hr : w.rangeAt g 0 [a, b] := fun j v hv => by
    rw [Nat.zero_add, cell_of_row w g j _ _ (0, 0) hb]; simpa using hv
  have := run_loadVar_mid (P := Try.prog) w g 0 67 [a, b] _ hr Try.underlying67 rfl infoM
  have ht2 : tmps[t]?.getD undef = .pointer (some ⟨g, 0, none⟩) := by rw [← ht]; simp
  subst hu
  simp [results, h, ht2, this, asAddr]
section
variable {w w1 w2 : World} {R B lo : Nat} {e : TypeId} {a b : Value} {cs : Array Value}
theorem up_hb (hb : Below w.heap.size w w1) (h : Below w1.heap.size w1 w2) : Below w.heap.size w w2 := hb.trans (h.mono hb.size)
theorem nb1 (h : Below w.drew.heap.size w.drew w2) : Below w.heap.size w w2 := (below_drew (Below.refl _ _)).trans h
theorem nb2 {o : Obj} (h : Below (w.alloc o).heap.size (w.alloc o) w2) : Below w.heap.size w w2 := ((Below.refl _ _).alloc (Nat.le_refl _) o).trans (h.mono (by simp))
theorem nb3 {o : Obj} (h : Below (w.alloc o).drew.heap.size (w.alloc o).drew w2) : Below w.heap.size w w2 := nb2 (nb1 h)
theorem lit_a (w : World) (o : Obj) : (w.alloc o).drew.heap[w.heap.size]? = some o := heap_alloc_new w o
theorem lit_b (w : World) (o o' : Obj) : ((w.alloc o).alloc o').drew.heap[w.heap.size + 1]? = some o' := by have := heap_alloc_new (w.alloc o) o'; rwa [World.size_alloc] at this
theorem lit_c (w : World) (o o' : Obj) : ((w.alloc o).alloc o').drew.heap[w.heap.size]? = some o := (Below.heap_alloc (w.alloc o) o' w.heap.size (by simp)).trans (heap_alloc_new w o)
theorem rd_at {s n : Nat} {A : Option Addr} {xs : List Value} (H : Rd w w.heap.size s A n xs) (hb : Below w.heap.size w w1) : Rd w1 w1.heap.size s A n xs := (H.below hb).more hb.size
theorem rdm_at {v : Value} {d : MkD} (H : RdMarked w w.heap.size v d) (hb : Below w.heap.size w w1) : RdMarked w1 w1.heap.size v d := (H.below hb).more hb.size
theorem own_at {v : Value} {d : MkD} {hi : Nat} (h : OwMarked w lo hi v d) (hh : hi ≤ w.heap.size) : RdMarked w w.heap.size v d := h.rd.more hh
theorem own_at_al {v : Value} {d : MkD} {hi : Nat} (h : OwMarked w lo hi v d) (hh : hi ≤ w.heap.size) (o : Obj) : RdMarked (w.alloc o) (w.alloc o).heap.size v d := rdm_at (own_at h hh) ((Below.refl _ _).alloc (Nat.le_refl _) o)
theorem up_bxg (hx : Bx w1 B cs e) (h : w1.grownBy w2 (some R)) (hne : B ≠ R) : Bx w2 B cs e := (h.block B hx.lt (fun q => hne (Option.some.inj q))).trans hx
theorem up_bx (hx : Bx w1 B cs e) (h : Below w1.heap.size w1 w2) : Bx w2 B cs e := hx.below h hx.lt
theorem st_kept (w1 : World) (R : Nat) (a b : Value) : Kept R (R + 1) w1 ((w1.setCell ⟨R, 0, none⟩ a).setCell ⟨R, 1, none⟩ b) :=
  ((Kept.refl R (R + 1) w1).setCell (p := ⟨R, 0, none⟩) (Nat.le_refl _) (Nat.lt_succ_self _) a).setCell (p := ⟨R, 1, none⟩) (Nat.le_refl _) (Nat.lt_succ_self _) b
theorem st_below (hb : Below w.heap.size w w1) (hR : w.heap.size ≤ R) : Below w.heap.size w ((w1.setCell ⟨R, 0, none⟩ a).setCell ⟨R, 1, none⟩ b) :=
  (hb.setCell (p := ⟨R, 0, none⟩) hR a).setCell (p := ⟨R, 1, none⟩) hR b
theorem st_cell (hk : Kept R (R + 1) w1 w2) (hx : Bx w1 B cs e) (hne : B ≠ R) (j : Nat) : w2.cell? ⟨B, j, none⟩ = cs[j]? := (hx.kept hk (by omega)).cell j
theorem st_done {r0 r1 : Value} (hx : Bx w1 R #[r0, r1] e) : Bx ((w1.setCell ⟨R, 0, none⟩ a).setCell ⟨R, 1, none⟩ b) R #[a, b] e := (hx.set 0 a).set 1 b
end
section
variable {w w' : World} {lo m k hi : Nat} {v0 v1 : Value} {d0 d1 : List Int} {A0 A1 : Option Addr} {n0 c0 n1 c1 : Nat}
theorem OwMarked.of (h0 : OwIntS w lo m (.slice A0 n0 c0) d0) (h1 : OwIntS w k hi (.slice A1 n1 c1) d1) (hm : m ≤ k) (h2 : m ≤ hi) (h3 : lo ≤ k) (hs : d0.length + d1.length ≤ 1048576) : OwMarked w lo hi (.agg #[.slice A0 n0 c0, .slice A1 n1 c1]) (d0, d1) :=
  ⟨hs, A0, n0, c0, A1, n1, c1, lo, m, k, hi, rfl, Nat.le_refl _, h3, h2, Nat.le_refl _, .inl hm, h0, h1⟩
theorem OwMarked.nil_ (w : World) (lo hi : Nat) (h : lo ≤ hi) : OwMarked w lo hi (.agg #[.slice none 0 0, .slice none 0 0]) ([], []) :=
  ⟨by simp [szMarked, szIntS], none, 0, 0, none, 0, 0, lo, lo, lo, lo, rfl, Nat.le_refl _, Nat.le_refl _, h, h, .inl (Nat.le_refl _), OwIntS.nil_ _ _ _, OwIntS.nil_ _ _ _⟩
theorem OwMarked.rdm {v : Value} {d : MkD} (h : OwMarked w lo hi v d) (hh : hi ≤ w.heap.size) : RdMarked w w.heap.size v d := h.rd.more hh
theorem OwMarked.open_ {v : Value} {d : MkD} (h : OwMarked w lo hi v d) : ∃ A0 n0 c0 A1 n1 c1, v = .agg #[.slice A0 n0 c0, .slice A1 n1 c1] := by
  obtain ⟨_, A0, n0, c0, A1, n1, c1, _, _, _, _, rfl, _⟩ := h
  exact ⟨_, _, _, _, _, _, rfl⟩
end
theorem markB_plus {x y : MkD} {t : Int} (hx : markB x = true) : markB (plusD x y t) = true := by
  rw [markB_iff] at hx ⊢
  obtain ⟨h1, h2, _, _⟩ := hx
  refine ⟨?_, ?_, B_of_nums (mixL_nums _ _ _), B_of_nums (mixL_nums _ _ _)⟩
  · simp only [plusD, mixL_length]; exact h1
  · simp only [plusD, mixL_length]; exact h2
theorem markB_sca {x : MkD} {t : Int} (hx : markB x = true) : markB (scaD x t) = true := by
  rw [markB_iff] at hx ⊢
  obtain ⟨h1, h2, _, _⟩ := hx
  refine ⟨?_, ?_, B_of_nums (scaL_nums _ _), B_of_nums (scaL_nums _ _)⟩
  · simp only [scaD, scaL_length]; exact h1
  · simp only [scaD, scaL_length]; exact h2
theorem markB_one {key : List Int} (h1 : 2 ≤ key.length ∧ key.length ≤ 7) (h2 : numsB key = true) : markB (oneL key.length, key) = true := by
  rw [markB_iff]
  refine ⟨?_, ?_, B_of_nums (oneL_nums _), h2⟩
  · simp only [oneL_length]; exact h1
  · simp only [oneL_length]

set_option maxHeartbeats 8000000 in
theorem s_l10Plus (v u : Value) (x y : MkD) (t : Int) (w : World) (h : RdMarked w w.heap.size v x) (k : RdMarked w w.heap.size u y) (hx : markB x = true) (hy : markB y = true) (hl : y.1.length = x.1.length) (t0 : 0 ≤ t) (t1 : t ≤ 112) :
    Calls Try.prog 94 #[v, u, .int .i64 t] w fun e w' => ∃ g, e = .returned g ∧ OwMarked w' w.heap.size w'.heap.size g (plusD x y t) ∧ Below w.heap.size w w' := by
  obtain ⟨X0, nx, cX0, X1, nx1, cX1, rfl, a0, a1, l0, l1⟩ := h.open_
  obtain ⟨Y0, ny, cY0, Y1, ny1, cY1, rfl, b0, b1, j0, j1⟩ := k.open_
  obtain ⟨⟨s1, s2⟩, s3, s4, s5⟩ := markB_iff.1 hx
  obtain ⟨_, s6, s7, s8⟩ := markB_iff.1 hy
  obtain ⟨x0, x1⟩ := x
  obtain ⟨y0, y1⟩ := y
  simp only at a0 a1 b0 b1 l0 l1 j0 j1 hl s1 s2 s3 s4 s5 s6 s7 s8
  obtain rfl : nx = nx1 := by omega
  obtain rfl : ny = ny1 := by omega
  obtain rfl : ny = nx := by omega
  have HX0 := Lib.hid a0
  have HX1 := Lib.hid a1
  have HY0 := Lib.hid b0
  have HY1 := Lib.hid b1
  have N0 := Lib.hid (nums_of_B s4)
  have N1 := Lib.hid (nums_of_B s5)
  have K0 := Lib.hid (nums_of_B s7)
  have K1 := Lib.hid (nums_of_B s8)
  have q7 : ny ≤ 7 := by omega
  have HLX : Hid (x0.length + x1.length ≤ 14) := Lib.hid (by omega)
  clear h k a0 a1 b0 b1 s1 s2 s3 s4 s5 s6 s7 s8 hx hy hl l0 l1 j0 j1
  go_enter Try.func94, Try.ntmps94
  go_wp2
  obtain ⟨W0, hW0⟩ : ∃ W, Hid ((((w.alloc (.cells #[.slice X0 ny cX0, .slice X1 ny cX1] 67)).alloc (.cells #[.slice Y0 ny cY0, .slice Y1 ny cY1] 67)).alloc (.cells #[.slice none 0 0, .slice none 0 0] 67)) = W) := ⟨_, Lib.hid rfl⟩
  have HB : Hid (Below w.heap.size w W0) := Lib.hid (by rw [← hW0.out]; exact (((Below.refl _ _).alloc (Nat.le_refl _) _).alloc (by simp) _).alloc (by simp; omega) _)
  have Z0 : Hid (W0.heap.size = w.heap.size + 1 + 1 + 1) := Lib.hid (by rw [← hW0.out]; simp only [World.size_alloc])
  have HX_x : Hid (Bx W0 w.heap.size #[.slice X0 ny cX0, .slice X1 ny cX1] 67) := Lib.hid (by rw [← hW0.out]; exact ((Bx.new w _ _).alloc _).alloc _)
  have HX_y : Hid (Bx W0 (w.heap.size + 1) #[.slice Y0 ny cY0, .slice Y1 ny cY1] 67) := Lib.hid (by rw [← hW0.out]; have := (Bx.new (w.alloc (.cells #[.slice X0 ny cX0, .slice X1 ny cX1] 67)) #[.slice Y0 ny cY0, .slice Y1 ny cY1] 67).alloc (.cells #[.slice none 0 0, .slice none 0 0] 67); rw [World.size_alloc] at this; exact this)
  have HX_R : Hid (Bx W0 (w.heap.size + 1 + 1) #[.slice none 0 0, .slice none 0 0] 67) := Lib.hid (by rw [← hW0.out]; have := Bx.new ((w.alloc (.cells #[.slice X0 ny cX0, .slice X1 ny cX1] 67)).alloc (.cells #[.slice Y0 ny cY0, .slice Y1 ny cY1] 67)) #[.slice none 0 0, .slice none 0 0] 67; rw [World.size_alloc, World.size_alloc] at this; exact this)
  rw [hW0.out]
  clear hW0
  have hb := HB.out
  have hx_x := HX_x.out
  have hx_y := HX_y.out
  have hx_R := HX_R.out
  have hc_x_0 : W0.cell? ⟨w.heap.size, 0, none⟩ = some (.slice X0 ny cX0) := HX_x.out.cell 0
  have hc_x_1 : W0.cell? ⟨w.heap.size, 1, none⟩ = some (.slice X1 ny cX1) := HX_x.out.cell 1
  have hc_y_0 : W0.cell? ⟨w.heap.size + 1, 0, none⟩ = some (.slice Y0 ny cY0) := HX_y.out.cell 0
  have hc_y_1 : W0.cell? ⟨w.heap.size + 1, 1, none⟩ = some (.slice Y1 ny cY1) := HX_y.out.cell 1
  have stq0 : True := trivial
  go_region_held3 (fun w' => Below w.heap.size w w' ∧ (w').cell? ⟨w.heap.size, 0, none⟩ = some (.slice X0 ny cX0) ∧ (w').cell? ⟨w.heap.size, 1, none⟩ = some (.slice X1 ny cX1) ∧ (w').cell? ⟨w.heap.size + 1, 0, none⟩ = some (.slice Y0 ny cY0) ∧ (w').cell? ⟨w.heap.size + 1, 1, none⟩ = some (.slice Y1 ny cY1))
    (first | exact ⟨hb, hc_x_0, hc_x_1, hc_y_0, hc_y_1⟩ | exact ⟨hb.drew, hc_x_0, hc_x_1, hc_y_0, hc_y_1⟩ | exact hst _ _)
    (first
      | (have stq1 := stq0
         clear stq0
         have z0 := Z0.out
         have zdrew : W0.drew.heap.size = W0.heap.size := rfl
         go_at_call 139
         refine (s_l10Mix X0 Y0 ny cX0 ny cY0 x0 y0 t _ (rd_at HX0.out (by first | exact hb | exact hb.drew)) (rd_at HY0.out (by first | exact hb | exact hb.drew)) N0.out K0.out q7 rfl t0 t1).mono ?_
         rintro e w1 ⟨A3, c3, rfl, ho0, hb_⟩
         have z1 := hb_.size
         have hbk : Below W0.heap.size W0 w1 := (by first | exact hb_ | exact nb1 hb_)
         replace hb : Below w.heap.size w w1 := up_hb hb hbk
         replace hx_x : Bx w1 (w.heap.size) #[.slice X0 ny cX0, .slice X1 ny cX1] 67 := up_bx hx_x hbk
         replace hx_y : Bx w1 (w.heap.size + 1) #[.slice Y0 ny cY0, .slice Y1 ny cY1] 67 := up_bx hx_y hbk
         replace hx_R : Bx w1 (w.heap.size + 1 + 1) #[.slice none 0 0, .slice none 0 0] 67 := up_bx hx_R hbk
         replace hc_x_0 : w1.cell? ⟨w.heap.size, 0, none⟩ = some (.slice X0 ny cX0) := hx_x.cell 0
         replace hc_x_1 : w1.cell? ⟨w.heap.size, 1, none⟩ = some (.slice X1 ny cX1) := hx_x.cell 1
         replace hc_y_0 : w1.cell? ⟨w.heap.size + 1, 0, none⟩ = some (.slice Y0 ny cY0) := hx_y.cell 0
         replace hc_y_1 : w1.cell? ⟨w.heap.size + 1, 1, none⟩ = some (.slice Y1 ny cY1) := hx_y.cell 1
         clear hbk
         clear hb_
         clear zdrew z0)
      | (have stq2 := stq1
         clear stq1
         have z0 := Z0.out
         have zdrew : W0.drew.heap.size = W0.heap.size := rfl
         go_at_call 139
         refine (s_l10Mix X1 Y1 ny cX1 ny cY1 x1 y1 t _ (rd_at HX1.out (by first | exact hb | exact hb.drew)) (rd_at HY1.out (by first | exact hb | exact hb.drew)) N1.out K1.out q7 rfl t0 t1).mono ?_
         rintro e w2 ⟨A4, c4, rfl, ho1, hb_⟩
         have z2 := hb_.size
         have hbk : Below w1.heap.size w1 w2 := (by first | exact hb_ | exact nb1 hb_)
         replace hb : Below w.heap.size w w2 := up_hb hb hbk
         replace hx_x : Bx w2 (w.heap.size) #[.slice X0 ny cX0, .slice X1 ny cX1] 67 := up_bx hx_x hbk
         replace hx_y : Bx w2 (w.heap.size + 1) #[.slice Y0 ny cY0, .slice Y1 ny cY1] 67 := up_bx hx_y hbk
         replace hx_R : Bx w2 (w.heap.size + 1 + 1) #[.slice none 0 0, .slice none 0 0] 67 := up_bx hx_R hbk
         replace hc_x_0 : w2.cell? ⟨w.heap.size, 0, none⟩ = some (.slice X0 ny cX0) := hx_x.cell 0
         replace hc_x_1 : w2.cell? ⟨w.heap.size, 1, none⟩ = some (.slice X1 ny cX1) := hx_x.cell 1
         replace hc_y_0 : w2.cell? ⟨w.heap.size + 1, 0, none⟩ = some (.slice Y0 ny cY0) := hx_y.cell 0
         replace hc_y_1 : w2.cell? ⟨w.heap.size + 1, 1, none⟩ = some (.slice Y1 ny cY1) := hx_y.cell 1
         replace ho0 := ho0.below hbk (by omega)
         clear hbk
         clear hb_
         have hr0 : w2.cell? ⟨w.heap.size + 1 + 1, 0, none⟩ = some (.slice none 0 0) := hx_R.cell 0
         have hf0 : w2.frozen? ⟨w.heap.size + 1 + 1, 0, none⟩ = false := hx_R.free 0
         have hr1 : w2.cell? ⟨w.heap.size + 1 + 1, 1, none⟩ = some (.slice none 0 0) := hx_R.cell 1
         have hf1 : w2.frozen? ⟨w.heap.size + 1 + 1, 1, none⟩ = false := hx_R.free 1
         have hst : ∀ a b, Below w.heap.size w ((w2.setCell ⟨w.heap.size + 1 + 1, 0, none⟩ a).setCell ⟨w.heap.size + 1 + 1, 1, none⟩ b) ∧ ((w2.setCell ⟨w.heap.size + 1 + 1, 0, none⟩ a).setCell ⟨w.heap.size + 1 + 1, 1, none⟩ b).cell? ⟨w.heap.size, 0, none⟩ = some (.slice X0 ny cX0) ∧ ((w2.setCell ⟨w.heap.size + 1 + 1, 0, none⟩ a).setCell ⟨w.heap.size + 1 + 1, 1, none⟩ b).cell? ⟨w.heap.size, 1, none⟩ = some (.slice X1 ny cX1) ∧ ((w2.setCell ⟨w.heap.size + 1 + 1, 0, none⟩ a).setCell ⟨w.heap.size + 1 + 1, 1, none⟩ b).cell? ⟨w.heap.size + 1, 0, none⟩ = some (.slice Y0 ny cY0) ∧ ((w2.setCell ⟨w.heap.size + 1 + 1, 0, none⟩ a).setCell ⟨w.heap.size + 1 + 1, 1, none⟩ b).cell? ⟨w.heap.size + 1, 1, none⟩ = some (.slice Y1 ny cY1) := fun a b => ⟨st_below hb (by omega), st_cell (st_kept w2 (w.heap.size + 1 + 1) _ _) hx_x (by omega) 0, st_cell (st_kept w2 (w.heap.size + 1 + 1) _ _) hx_x (by omega) 1, st_cell (st_kept w2 (w.heap.size + 1 + 1) _ _) hx_y (by omega) 0, st_cell (st_kept w2 (w.heap.size + 1 + 1) _ _) hx_y (by omega) 1⟩
         clear zdrew z0))
  have z0 := Z0.out
  have zdrew : W0.drew.heap.size = W0.heap.size := rfl
  have HR := Lib.hid (st_done (a := .slice A3 ny c3) (b := .slice A4 ny c4) hx_R)
  have HK := Lib.hid (st_kept w2 (w.heap.size + 1 + 1) (.slice A3 ny c3) (.slice A4 ny c4))
  have HF : Hid (Below w.heap.size w ((w2.setCell ⟨w.heap.size + 1 + 1, 0, none⟩ (.slice A3 ny c3)).setCell ⟨w.heap.size + 1 + 1, 1, none⟩ (.slice A4 ny c4))) := Lib.hid (st_below hb (by omega))
  have hsz := HK.out.size
  have zz : W0.heap.size ≤ w1.heap.size := z1
  clear hb hst z0
  go_wp2
  have z0 := Z0.out
  exact bodyPost_ret (v := .agg #[.slice A3 ny c3, .slice A4 ny c4]) (resM rfl rfl HR.out) rfl ⟨_, rfl, (OwMarked.of (ho0.kept HK.out (by omega) (by omega)) (ho1.kept HK.out (by omega) (by omega)) (by omega) (by omega) (by omega) (by simp only [mixL_length]; have := HLX.out; omega)).widen (by omega) (by omega), HF.out⟩

set_option maxHeartbeats 8000000 in
theorem i_Mplus (v u : Value) (x y : MkD) (w : World) (h : RdMarked w w.heap.size v x) (k : RdMarked w w.heap.size u y) (hx : markB x = true) (hy : markB y = true) (hl : y.1.length = x.1.length) :
    Calls Try.prog 97 #[v, u] w fun e w' => ∃ g, e = .returned g ∧ OwMarked w' w.heap.size w'.heap.size g (plusD x y 1) ∧ Below w.heap.size w w' := by
  obtain ⟨X0, nx, cX0, X1, nx1, cX1, rfl, a0, a1, l0, l1⟩ := h.open_
  obtain ⟨Y0, ny, cY0, Y1, ny1, cY1, rfl, b0, b1, j0, j1⟩ := k.open_
  obtain ⟨⟨s1, s2⟩, s3, s4, s5⟩ := markB_iff.1 hx
  obtain ⟨_, s6, s7, s8⟩ := markB_iff.1 hy
  obtain ⟨x0, x1⟩ := x
  obtain ⟨y0, y1⟩ := y
  simp only at a0 a1 b0 b1 l0 l1 j0 j1 hl s1 s2 s3 s4 s5 s6 s7 s8
  obtain rfl : nx = nx1 := by omega
  obtain rfl : ny = ny1 := by omega
  obtain rfl : ny = nx := by omega
  have HX0 := Lib.hid a0
  have HX1 := Lib.hid a1
  have HY0 := Lib.hid b0
  have HY1 := Lib.hid b1
  have N0 := Lib.hid (nums_of_B s4)
  have N1 := Lib.hid (nums_of_B s5)
  have K0 := Lib.hid (nums_of_B s7)
  have K1 := Lib.hid (nums_of_B s8)
  have q7 : ny ≤ 7 := by omega
  have HLX : Hid (x0.length + x1.length ≤ 14) := Lib.hid (by omega)
  clear h k a0 a1 b0 b1 s1 s2 s3 s4 s5 s6 s7 s8 hx hy hl l0 l1 j0 j1
  go_enter Try.func97, Try.ntmps97
  go_wp2
  obtain ⟨W0, hW0⟩ : ∃ W, Hid ((((w.alloc (.cells #[.slice X0 ny cX0, .slice X1 ny cX1] 67)).alloc (.cells #[.slice Y0 ny cY0, .slice Y1 ny cY1] 67)).alloc (.cells #[.slice none 0 0, .slice none 0 0] 67)) = W) := ⟨_, Lib.hid rfl⟩
  have HB : Hid (Below w.heap.size w W0) := Lib.hid (by rw [← hW0.out]; exact (((Below.refl _ _).alloc (Nat.le_refl _) _).alloc (by simp) _).alloc (by simp; omega) _)
  have Z0 : Hid (W0.heap.size = w.heap.size + 1 + 1 + 1) := Lib.hid (by rw [← hW0.out]; simp only [World.size_alloc])
  have HX_x : Hid (Bx W0 w.heap.size #[.slice X0 ny cX0, .slice X1 ny cX1] 67) := Lib.hid (by rw [← hW0.out]; exact ((Bx.new w _ _).alloc _).alloc _)
  have HX_y : Hid (Bx W0 (w.heap.size + 1) #[.slice Y0 ny cY0, .slice Y1 ny cY1] 67) := Lib.hid (by rw [← hW0.out]; have := (Bx.new (w.alloc (.cells #[.slice X0 ny cX0, .slice X1 ny cX1] 67)) #[.slice Y0 ny cY0, .slice Y1 ny cY1] 67).alloc (.cells #[.slice none 0 0, .slice none 0 0] 67); rw [World.size_alloc] at this; exact this)
  have HX_R : Hid (Bx W0 (w.heap.size + 1 + 1) #[.slice none 0 0, .slice none 0 0] 67) := Lib.hid (by rw [← hW0.out]; have := Bx.new ((w.alloc (.cells #[.slice X0 ny cX0, .slice X1 ny cX1] 67)).alloc (.cells #[.slice Y0 ny cY0, .slice Y1 ny cY1] 67)) #[.slice none 0 0, .slice none 0 0] 67; rw [World.size_alloc, World.size_alloc] at this; exact this)
  rw [hW0.out]
  clear hW0
  have hb := HB.out
  have hx_x := HX_x.out
  have hx_y := HX_y.out
  have hx_R := HX_R.out
  have hc_x_0 : W0.cell? ⟨w.heap.size, 0, none⟩ = some (.slice X0 ny cX0) := HX_x.out.cell 0
  have hc_x_1 : W0.cell? ⟨w.heap.size, 1, none⟩ = some (.slice X1 ny cX1) := HX_x.out.cell 1
  have hc_y_0 : W0.cell? ⟨w.heap.size + 1, 0, none⟩ = some (.slice Y0 ny cY0) := HX_y.out.cell 0
  have hc_y_1 : W0.cell? ⟨w.heap.size + 1, 1, none⟩ = some (.slice Y1 ny cY1) := HX_y.out.cell 1
  have stq0 : True := trivial
  go_region_held3 (fun w' => Below w.heap.size w w' ∧ (w').cell? ⟨w.heap.size, 0, none⟩ = some (.slice X0 ny cX0) ∧ (w').cell? ⟨w.heap.size, 1, none⟩ = some (.slice X1 ny cX1) ∧ (w').cell? ⟨w.heap.size + 1, 0, none⟩ = some (.slice Y0 ny cY0) ∧ (w').cell? ⟨w.heap.size + 1, 1, none⟩ = some (.slice Y1 ny cY1))
    (first | exact ⟨hb, hc_x_0, hc_x_1, hc_y_0, hc_y_1⟩ | exact ⟨hb.drew, hc_x_0, hc_x_1, hc_y_0, hc_y_1⟩ | exact hst _ _)
    (first
      | (have stq1 := stq0
         clear stq0
         have z0 := Z0.out
         have zdrew : W0.drew.heap.size = W0.heap.size := rfl
         go_at_call 103
         refine (i_values _ _ _).mono ?_
         rintro e w1 ⟨rfl, hb_⟩
         have z1 := hb_.size
         have hbk : Below W0.heap.size W0 w1 := (by first | exact hb_ | exact nb1 hb_)
         replace hb : Below w.heap.size w w1 := up_hb hb hbk
         replace hx_x : Bx w1 (w.heap.size) #[.slice X0 ny cX0, .slice X1 ny cX1] 67 := up_bx hx_x hbk
         replace hx_y : Bx w1 (w.heap.size + 1) #[.slice Y0 ny cY0, .slice Y1 ny cY1] 67 := up_bx hx_y hbk
         replace hx_R : Bx w1 (w.heap.size + 1 + 1) #[.slice none 0 0, .slice none 0 0] 67 := up_bx hx_R hbk
         replace hc_x_0 : w1.cell? ⟨w.heap.size, 0, none⟩ = some (.slice X0 ny cX0) := hx_x.cell 0
         replace hc_x_1 : w1.cell? ⟨w.heap.size, 1, none⟩ = some (.slice X1 ny cX1) := hx_x.cell 1
         replace hc_y_0 : w1.cell? ⟨w.heap.size + 1, 0, none⟩ = some (.slice Y0 ny cY0) := hx_y.cell 0
         replace hc_y_1 : w1.cell? ⟨w.heap.size + 1, 1, none⟩ = some (.slice Y1 ny cY1) := hx_y.cell 1
         clear hbk
         clear hb_
         clear zdrew z0)
      | (have stq2 := stq1
         clear stq1
         have z0 := Z0.out
         have zdrew : W0.drew.heap.size = W0.heap.size := rfl
         go_at_call 103
         refine (i_values _ _ _).mono ?_
         rintro e w2 ⟨rfl, hb_⟩
         have z2 := hb_.size
         have hbk : Below w1.heap.size w1 w2 := (by first | exact hb_ | exact nb1 hb_)
         replace hb : Below w.heap.size w w2 := up_hb hb hbk
         replace hx_x : Bx w2 (w.heap.size) #[.slice X0 ny cX0, .slice X1 ny cX1] 67 := up_bx hx_x hbk
         replace hx_y : Bx w2 (w.heap.size + 1) #[.slice Y0 ny cY0, .slice Y1 ny cY1] 67 := up_bx hx_y hbk
         replace hx_R : Bx w2 (w.heap.size + 1 + 1) #[.slice none 0 0, .slice none 0 0] 67 := up_bx hx_R hbk
         replace hc_x_0 : w2.cell? ⟨w.heap.size, 0, none⟩ = some (.slice X0 ny cX0) := hx_x.cell 0
         replace hc_x_1 : w2.cell? ⟨w.heap.size, 1, none⟩ = some (.slice X1 ny cX1) := hx_x.cell 1
         replace hc_y_0 : w2.cell? ⟨w.heap.size + 1, 0, none⟩ = some (.slice Y0 ny cY0) := hx_y.cell 0
         replace hc_y_1 : w2.cell? ⟨w.heap.size + 1, 1, none⟩ = some (.slice Y1 ny cY1) := hx_y.cell 1
         clear hbk
         clear hb_
         clear zdrew z0)
      | (have stq3 := stq2
         clear stq2
         have z0 := Z0.out
         have zdrew : W0.drew.heap.size = W0.heap.size := rfl
         go_at_call 141
         refine (i_plusV X0 Y0 ny cX0 ny cY0 x0 y0 _ (rd_at HX0.out (by first | exact hb | exact hb.drew)) (rd_at HY0.out (by first | exact hb | exact hb.drew)) N0.out K0.out q7 rfl).mono ?_
         rintro e w3 ⟨A3, c3, rfl, ho0, hb_⟩
         have z3 := hb_.size
         have hbk : Below w2.heap.size w2 w3 := (by first | exact hb_ | exact nb1 hb_)
         replace hb : Below w.heap.size w w3 := up_hb hb hbk
         replace hx_x : Bx w3 (w.heap.size) #[.slice X0 ny cX0, .slice X1 ny cX1] 67 := up_bx hx_x hbk
         replace hx_y : Bx w3 (w.heap.size + 1) #[.slice Y0 ny cY0, .slice Y1 ny cY1] 67 := up_bx hx_y hbk
         replace hx_R : Bx w3 (w.heap.size + 1 + 1) #[.slice none 0 0, .slice none 0 0] 67 := up_bx hx_R hbk
         replace hc_x_0 : w3.cell? ⟨w.heap.size, 0, none⟩ = some (.slice X0 ny cX0) := hx_x.cell 0
         replace hc_x_1 : w3.cell? ⟨w.heap.size, 1, none⟩ = some (.slice X1 ny cX1) := hx_x.cell 1
         replace hc_y_0 : w3.cell? ⟨w.heap.size + 1, 0, none⟩ = some (.slice Y0 ny cY0) := hx_y.cell 0
         replace hc_y_1 : w3.cell? ⟨w.heap.size + 1, 1, none⟩ = some (.slice Y1 ny cY1) := hx_y.cell 1
         clear hbk
         clear hb_
         clear zdrew z0)
      | (have stq4 := stq3
         clear stq3
         have z0 := Z0.out
         have zdrew : W0.drew.heap.size = W0.heap.size := rfl
         go_at_call 111
         refine (i_marks _ _ _).mono ?_
         rintro e w4 ⟨rfl, hb_⟩
         have z4 := hb_.size
         have hbk : Below w3.heap.size w3 w4 := (by first | exact hb_ | exact nb1 hb_)
         replace hb : Below w.heap.size w w4 := up_hb hb hbk
         replace hx_x : Bx w4 (w.heap.size) #[.slice X0 ny cX0, .slice X1 ny cX1] 67 := up_bx hx_x hbk
         replace hx_y : Bx w4 (w.heap.size + 1) #[.slice Y0 ny cY0, .slice Y1 ny cY1] 67 := up_bx hx_y hbk
         replace hx_R : Bx w4 (w.heap.size + 1 + 1) #[.slice none 0 0, .slice none 0 0] 67 := up_bx hx_R hbk
         replace hc_x_0 : w4.cell? ⟨w.heap.size, 0, none⟩ = some (.slice X0 ny cX0) := hx_x.cell 0
         replace hc_x_1 : w4.cell? ⟨w.heap.size, 1, none⟩ = some (.slice X1 ny cX1) := hx_x.cell 1
         replace hc_y_0 : w4.cell? ⟨w.heap.size + 1, 0, none⟩ = some (.slice Y0 ny cY0) := hx_y.cell 0
         replace hc_y_1 : w4.cell? ⟨w.heap.size + 1, 1, none⟩ = some (.slice Y1 ny cY1) := hx_y.cell 1
         replace ho0 := ho0.below hbk (by omega)
         clear hbk
         clear hb_
         clear zdrew z0)
      | (have stq5 := stq4
         clear stq4
         have z0 := Z0.out
         have zdrew : W0.drew.heap.size = W0.heap.size := rfl
         go_at_call 111
         refine (i_marks _ _ _).mono ?_
         rintro e w5 ⟨rfl, hb_⟩
         have z5 := hb_.size
         have hbk : Below w4.heap.size w4 w5 := (by first | exact hb_ | exact nb1 hb_)
         replace hb : Below w.heap.size w w5 := up_hb hb hbk
         replace hx_x : Bx w5 (w.heap.size) #[.slice X0 ny cX0, .slice X1 ny cX1] 67 := up_bx hx_x hbk
         replace hx_y : Bx w5 (w.heap.size + 1) #[.slice Y0 ny cY0, .slice Y1 ny cY1] 67 := up_bx hx_y hbk
         replace hx_R : Bx w5 (w.heap.size + 1 + 1) #[.slice none 0 0, .slice none 0 0] 67 := up_bx hx_R hbk
         replace hc_x_0 : w5.cell? ⟨w.heap.size, 0, none⟩ = some (.slice X0 ny cX0) := hx_x.cell 0
         replace hc_x_1 : w5.cell? ⟨w.heap.size, 1, none⟩ = some (.slice X1 ny cX1) := hx_x.cell 1
         replace hc_y_0 : w5.cell? ⟨w.heap.size + 1, 0, none⟩ = some (.slice Y0 ny cY0) := hx_y.cell 0
         replace hc_y_1 : w5.cell? ⟨w.heap.size + 1, 1, none⟩ = some (.slice Y1 ny cY1) := hx_y.cell 1
         replace ho0 := ho0.below hbk (by omega)
         clear hbk
         clear hb_
         clear zdrew z0)
      | (have stq6 := stq5
         clear stq5
         have z0 := Z0.out
         have zdrew : W0.drew.heap.size = W0.heap.size := rfl
         go_at_call 142
         refine (i_plusM X1 Y1 ny cX1 ny cY1 x1 y1 _ (rd_at HX1.out (by first | exact hb | exact hb.drew)) (rd_at HY1.out (by first | exact hb | exact hb.drew)) N1.out K1.out q7 rfl).mono ?_
         rintro e w6 ⟨A4, c4, rfl, ho1, hb_⟩
         have z6 := hb_.size
         have hbk : Below w5.heap.size w5 w6 := (by first | exact hb_ | exact nb1 hb_)
         replace hb : Below w.heap.size w w6 := up_hb hb hbk
         replace hx_x : Bx w6 (w.heap.size) #[.slice X0 ny cX0, .slice X1 ny cX1] 67 := up_bx hx_x hbk
         replace hx_y : Bx w6 (w.heap.size + 1) #[.slice Y0 ny cY0, .slice Y1 ny cY1] 67 := up_bx hx_y hbk
         replace hx_R : Bx w6 (w.heap.size + 1 + 1) #[.slice none 0 0, .slice none 0 0] 67 := up_bx hx_R hbk
         replace hc_x_0 : w6.cell? ⟨w.heap.size, 0, none⟩ = some (.slice X0 ny cX0) := hx_x.cell 0
         replace hc_x_1 : w6.cell? ⟨w.heap.size, 1, none⟩ = some (.slice X1 ny cX1) := hx_x.cell 1
         replace hc_y_0 : w6.cell? ⟨w.heap.size + 1, 0, none⟩ = some (.slice Y0 ny cY0) := hx_y.cell 0
         replace hc_y_1 : w6.cell? ⟨w.heap.size + 1, 1, none⟩ = some (.slice Y1 ny cY1) := hx_y.cell 1
         replace ho0 := ho0.below hbk (by omega)
         clear hbk
         clear hb_
         have hr0 : w6.cell? ⟨w.heap.size + 1 + 1, 0, none⟩ = some (.slice none 0 0) := hx_R.cell 0
         have hf0 : w6.frozen? ⟨w.heap.size + 1 + 1, 0, none⟩ = false := hx_R.free 0
         have hr1 : w6.cell? ⟨w.heap.size + 1 + 1, 1, none⟩ = some (.slice none 0 0) := hx_R.cell 1
         have hf1 : w6.frozen? ⟨w.heap.size + 1 + 1, 1, none⟩ = false := hx_R.free 1
         have hst : ∀ a b, Below w.heap.size w ((w6.setCell ⟨w.heap.size + 1 + 1, 0, none⟩ a).setCell ⟨w.heap.size + 1 + 1, 1, none⟩ b) ∧ ((w6.setCell ⟨w.heap.size + 1 + 1, 0, none⟩ a).setCell ⟨w.heap.size + 1 + 1, 1, none⟩ b).cell? ⟨w.heap.size, 0, none⟩ = some (.slice X0 ny cX0) ∧ ((w6.setCell ⟨w.heap.size + 1 + 1, 0, none⟩ a).setCell ⟨w.heap.size + 1 + 1, 1, none⟩ b).cell? ⟨w.heap.size, 1, none⟩ = some (.slice X1 ny cX1) ∧ ((w6.setCell ⟨w.heap.size + 1 + 1, 0, none⟩ a).setCell ⟨w.heap.size + 1 + 1, 1, none⟩ b).cell? ⟨w.heap.size + 1, 0, none⟩ = some (.slice Y0 ny cY0) ∧ ((w6.setCell ⟨w.heap.size + 1 + 1, 0, none⟩ a).setCell ⟨w.heap.size + 1 + 1, 1, none⟩ b).cell? ⟨w.heap.size + 1, 1, none⟩ = some (.slice Y1 ny cY1) := fun a b => ⟨st_below hb (by omega), st_cell (st_kept w6 (w.heap.size + 1 + 1) _ _) hx_x (by omega) 0, st_cell (st_kept w6 (w.heap.size + 1 + 1) _ _) hx_x (by omega) 1, st_cell (st_kept w6 (w.heap.size + 1 + 1) _ _) hx_y (by omega) 0, st_cell (st_kept w6 (w.heap.size + 1 + 1) _ _) hx_y (by omega) 1⟩
         clear zdrew z0))
  have z0 := Z0.out
  have zdrew : W0.drew.heap.size = W0.heap.size := rfl
  have HR := Lib.hid (st_done (a := .slice A3 ny c3) (b := .slice A4 ny c4) hx_R)
  have HK := Lib.hid (st_kept w6 (w.heap.size + 1 + 1) (.slice A3 ny c3) (.slice A4 ny c4))
  have HF : Hid (Below w.heap.size w ((w6.setCell ⟨w.heap.size + 1 + 1, 0, none⟩ (.slice A3 ny c3)).setCell ⟨w.heap.size + 1 + 1, 1, none⟩ (.slice A4 ny c4))) := Lib.hid (st_below hb (by omega))
  have hsz := HK.out.size
  have zz : W0.heap.size ≤ w1.heap.size := z1
  clear hb hst z0
  go_wp2
  have z0 := Z0.out
  exact bodyPost_ret (v := .agg #[.slice A3 ny c3, .slice A4 ny c4]) (resM rfl rfl HR.out) rfl ⟨_, rfl, (OwMarked.of (ho0.kept HK.out (by omega) (by omega)) (ho1.kept HK.out (by omega) (by omega)) (by omega) (by omega) (by omega) (by simp only [mixL_length]; have := HLX.out; omega)).widen (by omega) (by omega), HF.out⟩

set_option maxHeartbeats 8000000 in
theorem i_Mtimes (v : Value) (x : MkD) (t : Int) (w : World) (h : RdMarked w w.heap.size v x) (hx : markB x = true) (t0 : 0 ≤ t) (t1 : t ≤ 112) :
    Calls Try.prog 106 #[v, .int .i64 t] w fun e w' => ∃ g, e = .returned g ∧ OwMarked w' w.heap.size w'.heap.size g (scaD x t) ∧ Below w.heap.size w w' := by
  obtain ⟨X0, nx, cX0, X1, nx1, cX1, rfl, a0, a1, l0, l1⟩ := h.open_
  obtain ⟨⟨s1, s2⟩, s3, s4, s5⟩ := markB_iff.1 hx
  obtain ⟨x0, x1⟩ := x
  simp only at a0 a1 l0 l1 s1 s2 s3 s4 s5
  obtain rfl : nx = nx1 := by omega
  have HX0 := Lib.hid a0
  have HX1 := Lib.hid a1
  have N0 := Lib.hid (nums_of_B s4)
  have N1 := Lib.hid (nums_of_B s5)
  have q7 : nx ≤ 7 := by omega
  have q2 : 2 ≤ nx := by omega
  have HL0 : Hid (x0.length = nx) := Lib.hid l0
  have HL1 : Hid (x1.length = nx) := Lib.hid l1
  clear h a0 a1 s1 s2 s3 s4 s5 hx l0 l1
  go_enter Try.func106, Try.ntmps106
  go_wp2
  obtain ⟨W0, hW0⟩ : ∃ W, Hid (((w.alloc (.cells #[.slice X0 nx cX0, .slice X1 nx cX1] 67)).alloc (.cells #[.slice none 0 0, .slice none 0 0] 67)) = W) := ⟨_, Lib.hid rfl⟩
  have HB : Hid (Below w.heap.size w W0) := Lib.hid (by rw [← hW0.out]; exact ((Below.refl _ _).alloc (Nat.le_refl _) _).alloc (by simp) _)
  have Z0 : Hid (W0.heap.size = w.heap.size + 1 + 1) := Lib.hid (by rw [← hW0.out]; simp only [World.size_alloc])
  have HX_x : Hid (Bx W0 w.heap.size #[.slice X0 nx cX0, .slice X1 nx cX1] 67) := Lib.hid (by rw [← hW0.out]; exact (Bx.new w _ _).alloc _)
  have HX_R : Hid (Bx W0 (w.heap.size + 1) #[.slice none 0 0, .slice none 0 0] 67) := Lib.hid (by rw [← hW0.out]; have := Bx.new (w.alloc (.cells #[.slice X0 nx cX0, .slice X1 nx cX1] 67)) #[.slice none 0 0, .slice none 0 0] 67; rw [World.size_alloc] at this; exact this)
  rw [hW0.out]
  clear hW0
  have hb := HB.out
  have hx_x := HX_x.out
  have hx_R := HX_R.out
  have hc_x_0 : W0.cell? ⟨w.heap.size, 0, none⟩ = some (.slice X0 nx cX0) := HX_x.out.cell 0
  have hc_x_1 : W0.cell? ⟨w.heap.size, 1, none⟩ = some (.slice X1 nx cX1) := HX_x.out.cell 1
  have stq0 : True := trivial
  go_region_held3 (fun w' => Below w.heap.size w w' ∧ (w').cell? ⟨w.heap.size, 0, none⟩ = some (.slice X0 nx cX0) ∧ (w').cell? ⟨w.heap.size, 1, none⟩ = some (.slice X1 nx cX1))
    (first | exact ⟨hb, hc_x_0, hc_x_1⟩ | exact ⟨hb.drew, hc_x_0, hc_x_1⟩ | exact hst _ _)
    (first
      | (have stq1 := stq0
         clear stq0
         have z0 := Z0.out
         have zdrew : W0.drew.heap.size = W0.heap.size := rfl
         go_at_call 103
         refine (i_values _ _ _).mono ?_
         rintro e w1 ⟨rfl, hb_⟩
         have z1 := hb_.size
         have hbk : Below W0.heap.size W0 w1 := (by first | exact hb_ | exact nb1 hb_)
         replace hb : Below w.heap.size w w1 := up_hb hb hbk
         replace hx_x : Bx w1 (w.heap.size) #[.slice X0 nx cX0, .slice X1 nx cX1] 67 := up_bx hx_x hbk
         replace hx_R : Bx w1 (w.heap.size + 1) #[.slice none 0 0, .slice none 0 0] 67 := up_bx hx_R hbk
         replace hc_x_0 : w1.cell? ⟨w.heap.size, 0, none⟩ = some (.slice X0 nx cX0) := hx_x.cell 0
         replace hc_x_1 : w1.cell? ⟨w.heap.size, 1, none⟩ = some (.slice X1 nx cX1) := hx_x.cell 1
         clear hbk
         clear hb_
         clear zdrew z0)
      | (have stq2 := stq1
         clear stq1
         have z0 := Z0.out
         have zdrew : W0.drew.heap.size = W0.heap.size := rfl
         go_at_call 144
         refine (i_timesV X0 nx cX0 x0 t _ (rd_at HX0.out (by first | exact hb | exact hb.drew)) N0.out q7 t0 t1).mono ?_
         rintro e w2 ⟨A3, c3, rfl, ho0, hb_⟩
         have z2 := hb_.size
         have hbk : Below w1.heap.size w1 w2 := (by first | exact hb_ | exact nb1 hb_)
         replace hb : Below w.heap.size w w2 := up_hb hb hbk
         replace hx_x : Bx w2 (w.heap.size) #[.slice X0 nx cX0, .slice X1 nx cX1] 67 := up_bx hx_x hbk
         replace hx_R : Bx w2 (w.heap.size + 1) #[.slice none 0 0, .slice none 0 0] 67 := up_bx hx_R hbk
         replace hc_x_0 : w2.cell? ⟨w.heap.size, 0, none⟩ = some (.slice X0 nx cX0) := hx_x.cell 0
         replace hc_x_1 : w2.cell? ⟨w.heap.size, 1, none⟩ = some (.slice X1 nx cX1) := hx_x.cell 1
         clear hbk
         clear hb_
         clear zdrew z0)
      | (have stq3 := stq2
         clear stq2
         have z0 := Z0.out
         have zdrew : W0.drew.heap.size = W0.heap.size := rfl
         go_at_call 111
         refine (i_marks _ _ _).mono ?_
         rintro e w3 ⟨rfl, hb_⟩
         have z3 := hb_.size
         have hbk : Below w2.heap.size w2 w3 := (by first | exact hb_ | exact nb1 hb_)
         replace hb : Below w.heap.size w w3 := up_hb hb hbk
         replace hx_x : Bx w3 (w.heap.size) #[.slice X0 nx cX0, .slice X1 nx cX1] 67 := up_bx hx_x hbk
         replace hx_R : Bx w3 (w.heap.size + 1) #[.slice none 0 0, .slice none 0 0] 67 := up_bx hx_R hbk
         replace hc_x_0 : w3.cell? ⟨w.heap.size, 0, none⟩ = some (.slice X0 nx cX0) := hx_x.cell 0
         replace hc_x_1 : w3.cell? ⟨w.heap.size, 1, none⟩ = some (.slice X1 nx cX1) := hx_x.cell 1
         replace ho0 := ho0.below hbk (by omega)
         clear hbk
         clear hb_
         clear zdrew z0)
      | (have stq4 := stq3
         clear stq3
         have z0 := Z0.out
         have zdrew : W0.drew.heap.size = W0.heap.size := rfl
         go_at_call 145
         refine (i_timesM X1 nx cX1 x1 t _ (rd_at HX1.out (by first | exact hb | exact hb.drew)) N1.out q7 t0 t1).mono ?_
         rintro e w4 ⟨A4, c4, rfl, ho1, hb_⟩
         have z4 := hb_.size
         have hbk : Below w3.heap.size w3 w4 := (by first | exact hb_ | exact nb1 hb_)
         replace hb : Below w.heap.size w w4 := up_hb hb hbk
         replace hx_x : Bx w4 (w.heap.size) #[.slice X0 nx cX0, .slice X1 nx cX1] 67 := up_bx hx_x hbk
         replace hx_R : Bx w4 (w.heap.size + 1) #[.slice none 0 0, .slice none 0 0] 67 := up_bx hx_R hbk
         replace hc_x_0 : w4.cell? ⟨w.heap.size, 0, none⟩ = some (.slice X0 nx cX0) := hx_x.cell 0
         replace hc_x_1 : w4.cell? ⟨w.heap.size, 1, none⟩ = some (.slice X1 nx cX1) := hx_x.cell 1
         replace ho0 := ho0.below hbk (by omega)
         clear hbk
         clear hb_
         have hr0 : w4.cell? ⟨w.heap.size + 1, 0, none⟩ = some (.slice none 0 0) := hx_R.cell 0
         have hf0 : w4.frozen? ⟨w.heap.size + 1, 0, none⟩ = false := hx_R.free 0
         have hr1 : w4.cell? ⟨w.heap.size + 1, 1, none⟩ = some (.slice none 0 0) := hx_R.cell 1
         have hf1 : w4.frozen? ⟨w.heap.size + 1, 1, none⟩ = false := hx_R.free 1
         have hst : ∀ a b, Below w.heap.size w ((w4.setCell ⟨w.heap.size + 1, 0, none⟩ a).setCell ⟨w.heap.size + 1, 1, none⟩ b) ∧ ((w4.setCell ⟨w.heap.size + 1, 0, none⟩ a).setCell ⟨w.heap.size + 1, 1, none⟩ b).cell? ⟨w.heap.size, 0, none⟩ = some (.slice X0 nx cX0) ∧ ((w4.setCell ⟨w.heap.size + 1, 0, none⟩ a).setCell ⟨w.heap.size + 1, 1, none⟩ b).cell? ⟨w.heap.size, 1, none⟩ = some (.slice X1 nx cX1) := fun a b => ⟨st_below hb (by omega), st_cell (st_kept w4 (w.heap.size + 1) _ _) hx_x (by omega) 0, st_cell (st_kept w4 (w.heap.size + 1) _ _) hx_x (by omega) 1⟩
         clear zdrew z0))
  have z0 := Z0.out
  have zdrew : W0.drew.heap.size = W0.heap.size := rfl
  have HR := Lib.hid (st_done (a := .slice A3 nx c3) (b := .slice A4 nx c4) hx_R)
  have HK := Lib.hid (st_kept w4 (w.heap.size + 1) (.slice A3 nx c3) (.slice A4 nx c4))
  have HF : Hid (Below w.heap.size w ((w4.setCell ⟨w.heap.size + 1, 0, none⟩ (.slice A3 nx c3)).setCell ⟨w.heap.size + 1, 1, none⟩ (.slice A4 nx c4))) := Lib.hid (st_below hb (by omega))
  have hsz := HK.out.size
  clear hb hst z0
  go_wp2
  have z0 := Z0.out
  exact bodyPost_ret (v := .agg #[.slice A3 nx c3, .slice A4 nx c4]) (resM rfl rfl HR.out) rfl ⟨_, rfl, (OwMarked.of (ho0.kept HK.out (by omega) (by omega)) (ho1.kept HK.out (by omega) (by omega)) (by omega) (by omega) (by omega) (by simp only [scaL_length]; have := HL0.out; have := HL1.out; omega)).widen (by omega) (by omega), HF.out⟩

set_option maxHeartbeats 4000000 in
theorem i_fits (v : Value) (x : MkD) (m : Int) (w : World) (h : RdMarked w w.heap.size v x) (hs : szMarked x ≤ 1048576) :
    Calls Try.prog 96 #[v, .int .i64 m] w fun e w' => e = .returned (.bool (markB x && decide ((x.1.length : Int) = m))) ∧ Below w.heap.size w w' := by
  obtain ⟨X0, nx, cX0, X1, nx1, cX1, rfl, a0, a1, l0, l1⟩ := h.open_
  have hz := szM hs
  have m0 : nx ≤ 1048576 := by omega
  have m1 : nx1 ≤ 1048576 := by omega
  obtain ⟨x0, x1⟩ := x
  have HX0 := Lib.hid a0
  have HX1 := Lib.hid a1
  have HL := Lib.hid l0
  have HB0 := box_hb w (.cells #[.slice X0 nx cX0, .slice X1 nx1 cX1] 67)
  have HX := box_mk w X0 nx cX0 X1 nx1 cX1
  clear h a0 a1 l0 l1 hz hs
  go_enter Try.func96, Try.ntmps96
  go_wp2_with fail
  refine (i_MarkedOk X0 nx cX0 X1 nx1 cX1 x0 x1 _ (rd_at HX0.out HB0.out) (rd_at HX1.out HB0.out) m0 m1).mono ?_
  rintro e w2 ⟨rfl, hb⟩
  have b0 : w2.cell? ⟨w.heap.size, 0, none⟩ = some (.slice X0 nx cX0) := (HX.out.below hb HX.out.lt).cell 0
  have HB1 : Hid (Below w.heap.size w w2) := Lib.hid (HB0.out.trans (hb.mono HB0.out.size))
  clear hb HX HB0
  cases e1 : markB (x0, x1)
  · have HF : Hid ((markB (x0, x1) && decide (((x0, x1).1.length : Int) = m)) = false) := Lib.hid (by rw [e1]; rfl)
    go_wp2
    go_ret
    exact ⟨ret_bool HF.out.symm, HB1.out⟩
  · have HF : Hid ((markB (x0, x1) && decide (((x0, x1).1.length : Int) = m)) = decide ((nx : Int) = m)) := Lib.hid (by rw [e1, HL.out]; rfl)
    go_wp2
    go_ret
    exact ⟨ret_bool HF.out.symm, HB1.out⟩

set_option maxHeartbeats 4000000 in
theorem i_one (A : Option Addr) (n c : Nat) (w : World) (hn : n ≤ 7) (h2 : 2 ≤ n) :
    Calls Try.prog 107 #[.slice A n c] w fun e w' => ∃ B k, e = .returned (.agg #[.slice B n k, .slice A n c]) ∧ OwIntS w' w.heap.size w'.heap.size (.slice B n k) (oneL n) ∧ Below w.heap.size w w' := by
  have hmk := fun W => run_make1 (P := Try.prog) Try.underlying24 info_int rfl n (by omega) (by omega) W
  have i0 : (0 : Int) < (n : Int) := by omega
  have hA0 : (Array.replicate n (Value.int .i64 0))[0]? = some (.int .i64 0) := by rw [Array.getElem?_replicate, if_pos (by omega)]
  have HL : Hid (((Array.replicate n (Value.int .i64 0)).setIfInBounds 0 (Value.int .i64 1)).toList = cI (oneL n)) := Lib.hid (by
    rw [Array.toList_setIfInBounds, Array.toList_replicate, cI_zeros, cI_set]; rfl)
  have HS : Hid (((Array.replicate n (Value.int .i64 0)).setIfInBounds 0 (Value.int .i64 1)).size = n * 1) := Lib.hid (by simp)
  go_enter Try.func107, Try.ntmps107
  go_wp2
  obtain ⟨arr, harr⟩ : ∃ arr, (Array.replicate n (Value.int .i64 0)).setIfInBounds 0 (Value.int .i64 1) = arr := ⟨_, rfl⟩
  rw [harr] at HL HS
  simp only [harr]
  obtain ⟨w1, hw1⟩ : ∃ W, Hid (w.alloc (.cells #[.slice (some ⟨w.heap.size + 1, 0, none⟩) n n, .slice A n c] 67) = W) := ⟨_, Lib.hid rfl⟩
  have z1 : w1.heap.size = w.heap.size + 1 := by rw [← hw1.out]; exact World.size_alloc _ _
  have hx : Bx w1 w.heap.size #[.slice (some ⟨w.heap.size + 1, 0, none⟩) n n, .slice A n c] 67 := by rw [← hw1.out]; exact Bx.new _ _ _
  have hb1 : Below w.heap.size w w1 := by rw [← hw1.out]; exact (Below.refl _ _).alloc (Nat.le_refl _) _
  have ho := Ow.new w1 arr 3 1 n HS.out
  rw [HL.out, z1] at ho
  rw [hw1.out]
  have hb2 : Below w1.heap.size w1 (w1.alloc (.cells arr 3)) := (Below.refl _ _).alloc (Nat.le_refl _) _
  have z2 : (w1.alloc (.cells arr 3)).heap.size = w.heap.size + 1 + 1 := by rw [World.size_alloc, z1]
  have hb3 : Below (w1.alloc (.cells arr 3)).heap.size (w1.alloc (.cells arr 3)) ((w1.alloc (.cells arr 3)).alloc (.cells #[.slice (some ⟨w.heap.size + 1, 0, none⟩) n n, .slice A n c] 67)) := (Below.refl _ _).alloc (Nat.le_refl _) _
  have z3 := hb3.size
  exact bodyPost_ret (v := .agg #[.slice (some ⟨w.heap.size + 1, 0, none⟩) n n, .slice A n c]) (resM rfl rfl (up_bx (up_bx hx hb2) hb3)) rfl ⟨_, _, rfl, ⟨by rw [oneL_length]; omega, _, _, _, rfl, (ho.below hb3 (by omega)).widen (by omega) (by omega)⟩, hb1.trans ((hb2.trans (hb3.mono (by omega))).mono (by omega))⟩

section
variable {ops : Array Oper} {o : Oper} {a : Act} {K : Act → World → Prop} {Q : Exit → Act → World → Prop} {E : Prop} {W w : World}
/-- append([]int{}, x...) of one or more -/
theorem step_cpI (hgd : o.guard = none) (s x : Operand)
    (ho : o.op = .call { callee := .builtin .append, args := #[s, x], argTypes := #[24, 24] })
    {hi B m c : Nat} {A : Option Addr} {zs : List Int} (hs : a.eval s = .slice (some ⟨B, 0, none⟩) 0 0) (hx : a.eval x = .slice A m c) (hB : w.heap.size ≤ B) (hlit : W.heap[B]? = some (.cells #[] 3 (0, 0)))
    (hr : Rd W hi 1 A m (cI zs)) (hbel : Below w.heap.size w W) (hm : m ≤ 1000) (h0 : 0 < m)
    (h : ∀ g c' w', OwIntS w' g (g + 1) (.slice (some ⟨g, 0, none⟩) m c') zs → Below w.heap.size w w' → W.grownBy w' (some B) → w.heap.size ≤ g → g < w'.heap.size → K (a.put o.dst (.slice (some ⟨g, 0, none⟩) m c')) w') :
    if Region.wanted o (yielded ops a.tmps) = true then Oper.wp Try.prog o a W K Q else E := by
  refine step_append_rd hgd s x _ ho w.heap.size 3 _ 1 8 Try.underlying24 info_int rfl (by decide) _ 0 [] hs (own_lit0 hB hlit) _ _ m c (cI zs) hx hr (cI_one _) (by unfold maxLen; omega) (by omega) hbel.size ?_
  intro v1 w1 hown hg _
  have hbl : Below w.heap.size w w1 := below_grown hbel hg (own_block (own_lit0 (e := 3) (size := 1) hB hlit)) hbel.size
  rcases hown.2 with ⟨_, h2⟩ | ⟨g, cap, cur, rfl, hb, hh, hnc, _, hsz, ht⟩
  · omega
  · rw [Nat.zero_add, List.nil_append] at ht
    have hlen : zs.length = m := by have := hown.1; rw [List.nil_append, cI_length] at this; omega
    have hgt := (Array.getElem?_eq_some_iff.1 hh).1
    simp only [Nat.zero_add] at hnc ⊢
    exact h g cap w1 ⟨by omega, _, _, _, rfl, by rw [cI_length]; omega, hnc, .inr ⟨g, cur, rfl, Nat.le_refl _, Nat.lt_succ_self _, hh, ht⟩⟩ hbl hg hb hgt
end
theorem own_typI {w : World} {g b n c : Nat} {cs : Array Value} {zs : List Int} {e : TypeId} (h : OwIntS w g (g + 1) (.slice (some ⟨g, 0, none⟩) n c) zs) (hb : Bx w b cs e) (hne : 3 ≠ e) (hn : 0 < n) : b ≠ g := by
  rintro rfl
  obtain ⟨_, A, k, q, hv, ho⟩ := h
  injection hv with h1 h2 h3
  subst h1 h2 h3
  obtain ⟨g', cs', hA, _, _, hh, _⟩ := ho.lt hn
  injection hA with hA
  injection hA with hA
  subst hA
  have hb2 : w.heap[b]? = some (.cells cs e (0, 0)) := hb
  rw [hh] at hb2
  injection hb2 with q
  injection q with _ q2
  exact hne q2

set_option maxHeartbeats 8000000 in
theorem s_l10Shift (v : Value) (x : MkD) (t : Int) (A : Option Addr) (n c : Nat) (key : List Int) (w : World) (h : RdMarked w w.heap.size v x) (hx : markB x = true) (hk : Rd w w.heap.size 1 A n (cI key)) (hN : Nums key) (hn : n = x.1.length) (t0 : 0 ≤ t) (t1 : t ≤ 112) :
    Calls Try.prog 101 #[v, .int .i64 t, .slice A n c] w fun e w' => ∃ g, e = .returned g ∧ OwMarked w' w.heap.size w'.heap.size g (shiftD x t key) ∧ Below w.heap.size w w' := by
  obtain ⟨X0, nx, cX0, X1, nx1, cX1, rfl, a0, a1, l0, l1⟩ := h.open_
  obtain ⟨⟨s1, s2⟩, s3, s4, s5⟩ := markB_iff.1 hx
  obtain ⟨x0, x1⟩ := x
  simp only at a0 a1 hn l0 l1 s1 s2 s3 s4 s5
  obtain rfl : nx = nx1 := by omega
  have HX0 := Lib.hid a0
  have HX1 := Lib.hid a1
  have N0 := Lib.hid (nums_of_B s4)
  have N1 := Lib.hid (nums_of_B s5)
  have q7 : nx ≤ 7 := by omega
  have q2 : 2 ≤ nx := by omega
  have HL0 : Hid (x0.length = nx) := Lib.hid l0
  have HL1 : Hid (x1.length = nx) := Lib.hid l1
  clear h a0 a1 s1 s2 s3 s4 s5 hx l0 l1
  have hnn : n = nx := by have := HL0.out; omega
  subst hnn
  have HK0 := Lib.hid hk
  have KN := Lib.hid hN
  clear hk hN hn
  have q3 : 0 < n := by omega
  go_enter Try.func101, Try.ntmps101
  go_upto_region 1 with (fail)
  obtain ⟨W0, hW0⟩ : ∃ W, Hid (((w.alloc (.cells #[.slice X0 n cX0, .slice X1 n cX1] 67)).alloc (.cells #[.slice none 0 0, .slice none 0 0] 67)) = W) := ⟨_, Lib.hid rfl⟩
  have HB : Hid (Below w.heap.size w W0) := Lib.hid (by rw [← hW0.out]; exact ((Below.refl _ _).alloc (Nat.le_refl _) _).alloc (by simp) _)
  have Z0 : Hid (W0.heap.size = w.heap.size + 1 + 1) := Lib.hid (by rw [← hW0.out]; simp only [World.size_alloc])
  have HX_x : Hid (Bx W0 w.heap.size #[.slice X0 n cX0, .slice X1 n cX1] 67) := Lib.hid (by rw [← hW0.out]; exact (Bx.new w _ _).alloc _)
  have HX_R : Hid (Bx W0 (w.heap.size + 1) #[.slice none 0 0, .slice none 0 0] 67) := Lib.hid (by rw [← hW0.out]; have := Bx.new (w.alloc (.cells #[.slice X0 n cX0, .slice X1 n cX1] 67)) #[.slice none 0 0, .slice none 0 0] 67; rw [World.size_alloc] at this; exact this)
  rw [hW0.out]
  clear hW0
  go_cut [7] from 8 (fun p w' => ∃ (bA g s u c3 : Nat) (A4 : Option Addr) (c4 : Nat), p = .pointer (some ⟨bA, 0, none⟩) ∧ Hid (Bx w' bA #[.slice (some ⟨g, 0, none⟩) n c3, .slice A4 n c4] 67) ∧ Hid (OwIntS w' g (g + 1) (.slice (some ⟨g, 0, none⟩) n c3) x0) ∧ Hid (OwIntS w' s u (.slice A4 n c4) (mixL x1 key t))
    ∧ Hid (g + 1 ≤ s ∧ u ≤ w'.heap.size ∧ s ≤ u ∧ bA ≠ g ∧ (bA < s ∨ u ≤ bA) ∧ W0.heap.size ≤ g ∧ W0.heap.size ≤ bA) ∧ Hid (Below w.heap.size w w') ∧ Hid (Bx w' (w.heap.size + 1) #[.slice none 0 0, .slice none 0 0] 67))
  case first =>
    go_wp2
    have hb := HB.out
    have hx_x := HX_x.out
    have hx_R := HX_R.out
    have hc_x_0 : W0.cell? ⟨w.heap.size, 0, none⟩ = some (.slice X0 n cX0) := HX_x.out.cell 0
    have hc_x_1 : W0.cell? ⟨w.heap.size, 1, none⟩ = some (.slice X1 n cX1) := HX_x.out.cell 1
    have nb0 : ∀ o, Below W0.heap.size W0 (W0.alloc o).drew := fun o => nb3 (o := o) (Below.refl _ _)
    have nb0b : ∀ o o', Below W0.heap.size W0 ((W0.alloc o).alloc o').drew := fun o o' => below_drew (((Below.refl _ _).alloc (Nat.le_refl _) o).alloc (by simp) o')
    have stq0 : True := trivial
    have hal : ∀ o, Below w.heap.size w (W0.alloc o).drew ∧ ((W0.alloc o).drew).cell? ⟨w.heap.size, 0, none⟩ = some (.slice X0 n cX0) ∧ ((W0.alloc o).drew).cell? ⟨w.heap.size, 1, none⟩ = some (.slice X1 n cX1) := fun o => ⟨(hb.alloc hb.size o).drew, (hx_x.alloc o).cell 0, (hx_x.alloc o).cell 1⟩
    have hal2 : ∀ o o', Below w.heap.size w ((W0.alloc o).alloc o').drew ∧ (((W0.alloc o).alloc o').drew).cell? ⟨w.heap.size, 0, none⟩ = some (.slice X0 n cX0) ∧ (((W0.alloc o).alloc o').drew).cell? ⟨w.heap.size, 1, none⟩ = some (.slice X1 n cX1) := fun o o' => ⟨((hb.alloc hb.size o).alloc (hb.alloc hb.size o).size o').drew, ((hx_x.alloc o).alloc o').cell 0, ((hx_x.alloc o).alloc o').cell 1⟩
    go_region_held3 (fun w' => Below w.heap.size w w' ∧ (w').cell? ⟨w.heap.size, 0, none⟩ = some (.slice X0 n cX0) ∧ (w').cell? ⟨w.heap.size, 1, none⟩ = some (.slice X1 n cX1))
      (first | exact ⟨hb, hc_x_0, hc_x_1⟩ | exact ⟨hb.drew, hc_x_0, hc_x_1⟩ | exact hal _ | exact hal2 _ _ | exact hst _ _)
      (first
        | (have stq1 := stq0
           clear stq0
           have z0 := Z0.out
           have zdrew : W0.drew.heap.size = W0.heap.size := rfl
           go_loud (refine step_cpI (w := W0) rfl (.tmp 8) (.tmp 10) rfl rfl rfl ?hB ?hlit (rd_at HX0.out (by first | exact hb | exact hb.drew | exact hb.alloc hb.size _ | exact (hb.alloc hb.size _).drew | exact ((hb.alloc hb.size _).alloc (hb.alloc hb.size _).size _).drew)) ?hbel (by omega) q3 ?_)
           case hB => omega
           case hlit => first | exact lit_a _ _ | exact lit_b _ _ _ | exact lit_c _ _ _
           case hbel => first | exact nb0 _ | exact nb0b _ _
           intro g c3 w1 ho0 hb_ hg_ hg0 hg1
           have z1 := hb_.size
           try simp only [World.size_alloc] at z1
           have hbk : Below W0.heap.size W0 w1 := (by first | exact hb_ | exact nb1 hb_ | exact nb2 hb_ | exact nb3 hb_)
           replace hb : Below w.heap.size w w1 := up_hb hb hbk
           replace hx_x : Bx w1 (w.heap.size) #[.slice X0 n cX0, .slice X1 n cX1] 67 := up_bx hx_x hbk
           replace hx_R : Bx w1 (w.heap.size + 1) #[.slice none 0 0, .slice none 0 0] 67 := up_bx hx_R hbk
           replace hc_x_0 : w1.cell? ⟨w.heap.size, 0, none⟩ = some (.slice X0 n cX0) := hx_x.cell 0
           replace hc_x_1 : w1.cell? ⟨w.heap.size, 1, none⟩ = some (.slice X1 n cX1) := hx_x.cell 1
           try simp only [World.size_alloc] at ho0
           clear hal hal2
           have hal : ∀ o, Below w.heap.size w (w1.alloc o) ∧ ((w1.alloc o)).cell? ⟨w.heap.size, 0, none⟩ = some (.slice X0 n cX0) ∧ ((w1.alloc o)).cell? ⟨w.heap.size, 1, none⟩ = some (.slice X1 n cX1) := fun o => ⟨hb.alloc hb.size o, (hx_x.alloc o).cell 0, (hx_x.alloc o).cell 1⟩
           have hal2 : True := trivial
           clear hbk
           first | (have hA_ : ∃ b, Hid (W0.heap.size = b) ∧ Bx w1 b #[.slice none 0 0, .slice none 0 0] 67 := ⟨_, Lib.hid rfl, up_bxg (show Bx _ W0.heap.size #[.slice none 0 0, .slice none 0 0] 67 from lit_c _ _ _) hg_ (by omega)⟩; obtain ⟨bA, zA, HA⟩ := hA_; rw [zA.out]; have zl := HA.lt) | (have hA_ : ∃ b, Hid (W0.heap.size + 1 = b) ∧ Bx w1 b #[.slice none 0 0, .slice none 0 0] 67 := ⟨_, Lib.hid rfl, up_bxg (show Bx _ (W0.heap.size + 1) #[.slice none 0 0, .slice none 0 0] 67 from lit_b _ _ _) hg_ (by omega)⟩; obtain ⟨bA, zA, HA⟩ := hA_; rw [zA.out]; have zl := HA.lt) | skip
           clear hg_
           clear hb_
           clear zdrew z0)
        | (have stq2 := stq1
           clear stq1
           have z0 := Z0.out
           have zdrew : W0.drew.heap.size = W0.heap.size := rfl
           go_at_call 139
           refine (s_l10Mix X1 A n cX1 n c x1 key t _ (rd_at HX1.out (by first | exact hb | exact hb.drew | exact hb.alloc hb.size _ | exact (hb.alloc hb.size _).drew | exact ((hb.alloc hb.size _).alloc (hb.alloc hb.size _).size _).drew)) (rd_at HK0.out (by first | exact hb | exact hb.drew | exact hb.alloc hb.size _ | exact (hb.alloc hb.size _).drew | exact ((hb.alloc hb.size _).alloc (hb.alloc hb.size _).size _).drew)) N1.out KN.out q7 rfl t0 t1).mono ?_
           rintro e w2 ⟨A4, c4, rfl, ho1, hb_⟩
           have z2 := hb_.size
           try simp only [World.size_alloc] at z2
           have hbk : Below w1.heap.size w1 w2 := (by first | exact hb_ | exact nb1 hb_ | exact nb2 hb_ | exact nb3 hb_)
           replace hb : Below w.heap.size w w2 := up_hb hb hbk
           replace hx_x : Bx w2 (w.heap.size) #[.slice X0 n cX0, .slice X1 n cX1] 67 := up_bx hx_x hbk
           replace hx_R : Bx w2 (w.heap.size + 1) #[.slice none 0 0, .slice none 0 0] 67 := up_bx hx_R hbk
           replace hc_x_0 : w2.cell? ⟨w.heap.size, 0, none⟩ = some (.slice X0 n cX0) := hx_x.cell 0
           replace hc_x_1 : w2.cell? ⟨w.heap.size, 1, none⟩ = some (.slice X1 n cX1) := hx_x.cell 1
           replace ho0 := ho0.below hbk (by omega)
           try simp only [World.size_alloc] at ho1
           first | (have hA_ : ∃ b, Hid (w1.heap.size = b) ∧ Bx w2 b #[.slice none 0 0, .slice none 0 0] 67 := ⟨_, Lib.hid rfl, up_bx (Bx.new _ _ _) hb_⟩; obtain ⟨bA, zA, HA⟩ := hA_; rw [zA.out]; have zl := HA.lt) | (replace HA := up_bx HA hbk) | skip
           clear hal hal2
           have hal : ∀ o, Below w.heap.size w (w2.alloc o) ∧ ((w2.alloc o)).cell? ⟨w.heap.size, 0, none⟩ = some (.slice X0 n cX0) ∧ ((w2.alloc o)).cell? ⟨w.heap.size, 1, none⟩ = some (.slice X1 n cX1) := fun o => ⟨hb.alloc hb.size o, (hx_x.alloc o).cell 0, (hx_x.alloc o).cell 1⟩
           have hal2 : True := trivial
           clear hbk
           clear hb_
           first | (have zA_ := zA.out; have hr0 : w2.cell? ⟨bA, 0, none⟩ = some (.slice none 0 0) := HA.cell 0; have hf0 : w2.frozen? ⟨bA, 0, none⟩ = false := HA.free 0; have hr1 : w2.cell? ⟨bA, 1, none⟩ = some (.slice none 0 0) := HA.cell 1; have hf1 : w2.frozen? ⟨bA, 1, none⟩ = false := HA.free 1; have hst : ∀ a b, Below w.heap.size w ((w2.setCell ⟨bA, 0, none⟩ a).setCell ⟨bA, 1, none⟩ b) ∧ ((w2.setCell ⟨bA, 0, none⟩ a).setCell ⟨bA, 1, none⟩ b).cell? ⟨w.heap.size, 0, none⟩ = some (.slice X0 n cX0) ∧ ((w2.setCell ⟨bA, 0, none⟩ a).setCell ⟨bA, 1, none⟩ b).cell? ⟨w.heap.size, 1, none⟩ = some (.slice X1 n cX1) := fun a b => ⟨st_below hb (by omega), st_cell (st_kept w2 bA _ _) hx_x (by omega) 0, st_cell (st_kept w2 bA _ _) hx_x (by omega) 1⟩; clear zA_) | skip
           clear zdrew z0))
    all_goals clear hal hal2
    all_goals (first
      | (clear hst
         go_wp2
         go_meet
         case rel =>
           have z0 := Z0.out
           have zA_ := zA.out
           have hne := own_typI ho0 HA (by decide) q3
           have hk := st_kept w2 bA (.slice (some ⟨g, 0, none⟩) n c3) (.slice A4 n c4)
           have hs := hk.size
           have o0 := ho0.kept hk (by omega) (by omega)
           have o1 := ho1.kept hk (by omega) (by omega)
           first
             | exact ⟨bA, g, w1.heap.size, w2.heap.size, c3, A4, c4, rfl, Lib.hid (st_done HA), Lib.hid o0, Lib.hid o1, Lib.hid ⟨by omega, by omega, by omega, hne, by omega, by omega, by omega⟩, Lib.hid (st_below hb (by omega)), Lib.hid (hx_R.kept hk (by omega))⟩
             | exact ⟨bA, g, w1.heap.size + 1, w2.heap.size, c3, A4, c4, rfl, Lib.hid (st_done HA), Lib.hid o0, Lib.hid o1, Lib.hid ⟨by omega, by omega, by omega, hne, by omega, by omega, by omega⟩, Lib.hid (st_below hb (by omega)), Lib.hid (hx_R.kept hk (by omega))⟩)
      | (go_wp2
         go_meet
         case rel =>
           have z0 := Z0.out
           have ha : Below w2.heap.size w2 (w2.alloc (.cells #[.slice (some ⟨g, 0, none⟩) n c3, .slice A4 n c4] 67)) := (Below.refl _ _).alloc (Nat.le_refl _) _
           have hs := ha.size
           exact ⟨w2.heap.size, g, _, _, c3, A4, c4, rfl, Lib.hid (Bx.new _ _ _), Lib.hid (ho0.below ha (by omega)), Lib.hid (ho1.below ha (by omega)), Lib.hid ⟨by omega, by omega, by omega, by omega, by omega, by omega, by omega⟩, Lib.hid (hb.alloc hb.size _), Lib.hid (up_bx hx_R ha)⟩))
  case rest =>
    obtain ⟨bA, g, s, u, c3, A4, c4, rfl, HA, HO0, HO1, HI, HB2, HR⟩ := hcut
    obtain ⟨_, B0, k0, e0, hv, ho⟩ := HO0.out
    injection hv with h1 h2 h3
    subst h1 h2 h3
    obtain ⟨z, hcz, HZ⟩ := ho.intAt (k := 0) q3
    have z1 : 0 ≤ z := by rw [HZ.out]; exact (N0.out 0).1
    have z2 : z ≤ 112 := by rw [HZ.out]; exact (N0.out 0).2
    have hf := ho.free q3 0
    have b0 : wc.cell? ⟨bA, 0, none⟩ = some (.slice (some ⟨g, 0, none⟩) n c3) := HA.out.cell 0
    have HOS := Lib.hid (ho.set 0 (.int .i64 ((z + t) % 113)))
    rw [cI_set] at HOS
    have HSV : Hid (x0.set 0 ((z + t) % 113) = shiftV x0 t) := Lib.hid (by rw [shiftV, HZ.out])
    rw [HSV.out] at HOS
    have HAS := Lib.hid (HA.out.other ⟨g, 0, none⟩ (.int .i64 ((z + t) % 113)) (by have := HI.out; simp only; omega))
    have HRS := Lib.hid (HR.out.other ⟨g, 0, none⟩ (.int .i64 ((z + t) % 113)) (by have := HI.out; have := Z0.out; simp only; omega))
    have HKS : Hid (Kept g (g + 1) wc (wc.setCell ⟨g, 0, none⟩ (.int .i64 ((z + t) % 113)))) := Lib.hid ((Kept.refl g (g + 1) wc).setCell (p := ⟨g, 0, none⟩) (Nat.le_refl _) (Nat.lt_succ_self _) _)
    have i0 : (0 : Int) < (n : Int) := by omega
    have iw : IntKind.i64.wrap (z + t) = z + t := IntWalk.i64_in _ (by omega)
    have im : (z + t).tmod 113 = (z + t) % 113 := Int.tmod_eq_emod_of_nonneg (by omega)
    clear ho HB HX_x HX_R
    go_wp2
    go_still_tail 9, (by kernel_rfl)
    change wpList _ _ _ _ _ wc.drew
    go_upto_region 3 with (fail)
    obtain ⟨W3, hW3⟩ : ∃ W, Hid ((wc.setCell ⟨g, 0, none⟩ (.int .i64 ((z + t) % 113))).drew = W) := ⟨_, Lib.hid rfl⟩
    have HA3 : Hid (Bx W3 bA #[.slice (some ⟨g, 0, none⟩) n c3, .slice A4 n c4] 67) := Lib.hid (by rw [← hW3.out]; exact HAS.out)
    have HO3 : Hid (Ow W3 g (g + 1) 3 1 (some ⟨g, 0, none⟩) n c3 (cI (shiftV x0 t))) := Lib.hid (by rw [← hW3.out]; exact HOS.out)
    have HR3 : Hid (Bx W3 (w.heap.size + 1) #[.slice none 0 0, .slice none 0 0] 67) := Lib.hid (by rw [← hW3.out]; exact HRS.out)
    have HK3 : Hid (Kept g (g + 1) wc W3) := Lib.hid (by rw [← hW3.out]; exact HKS.out.drew)
    have HO4 : Hid (OwIntS W3 s u (.slice A4 n c4) (mixL x1 key t)) := Lib.hid (HO1.out.kept HK3.out (by have := HI.out; omega) (by have := HI.out; omega))
    have HB3 : Hid (Below w.heap.size w W3) := Lib.hid (HB2.out.trans ((HK3.out.to_below (by have := HI.out; omega)).mono (by have := HI.out; have := Z0.out; omega)))
    rw [hW3.out]
    have d0 : W3.cell? ⟨bA, 0, none⟩ = some (.slice (some ⟨g, 0, none⟩) n c3) := HA3.out.cell 0
    have d1 : W3.cell? ⟨bA, 1, none⟩ = some (.slice A4 n c4) := HA3.out.cell 1
    have r0 : W3.cell? ⟨w.heap.size + 1, 0, none⟩ = some (.slice none 0 0) := HR3.out.cell 0
    have r1 : W3.cell? ⟨w.heap.size + 1, 1, none⟩ = some (.slice none 0 0) := HR3.out.cell 1
    have f0 : W3.frozen? ⟨w.heap.size + 1, 0, none⟩ = false := HR3.out.free 0
    have f1 : W3.frozen? ⟨w.heap.size + 1, 1, none⟩ = false := HR3.out.free 1
    clear hcz hf b0 iw im
    go_wp2
    have hk := st_kept W3 (w.heap.size + 1) (.slice (some ⟨g, 0, none⟩) n c3) (.slice A4 n c4)
    have z3 := hk.size
    have z4 := Z0.out
    have z5 := HK3.out.size
    have zi := HI.out
    have o0 : OwIntS W3 g (g + 1) (.slice (some ⟨g, 0, none⟩) n c3) (shiftV x0 t) := ⟨by have := HO3.out.len; omega, _, _, _, rfl, HO3.out⟩
    have l0 : (shiftV x0 t).length = n := by rw [shiftV, List.length_set]; exact HL0.out
    exact bodyPost_ret (v := .agg #[.slice (some ⟨g, 0, none⟩) n c3, .slice A4 n c4]) (resM rfl rfl (st_done HR3.out)) rfl ⟨_, rfl, (OwMarked.of (o0.kept hk (by omega) (by omega)) (HO4.out.kept hk (by omega) (by omega)) (by omega) (by omega) (by omega) (by rw [l0, mixL_length, HL1.out]; omega)).widen (by omega) (by omega), st_below HB3.out (by omega)⟩
end Go.Proofs.Ytipdflbnnmghdaa

/- Chapter 10: MarkedAdd, MarkedScale, MarkedShift of both sides. Made by tools/gen10/laws.py. -/
namespace Go.Proofs.Ytipdflbnnmghdaa
open Go.RowKit
set_option maxRecDepth 100000

def R_MarkedAdd_1 (x y : MkD) : Bool := markB x && (markB y && decide (y.1.length = x.1.length))
def R_MarkedAdd_0 (x y : MkD) : MkD := if R_MarkedAdd_1 x y = true then plusD x y 1 else ([], [])
def R_MarkedScale_1 (x : MkD) (t : Int) : Bool := markB x && numB t
def R_MarkedScale_0 (x : MkD) (t : Int) : MkD := if R_MarkedScale_1 x t = true then scaD x t else ([], [])
def R_MarkedShift_1 (x : MkD) (t : Int) (key : List Int) : Bool := markB x && (numB t && (decide (key.length = x.1.length) && numsB key))
def R_MarkedShift_0 (x : MkD) (t : Int) (key : List Int) : MkD := if R_MarkedShift_1 x t key = true then shiftD x t key else ([], [])
theorem scaD_is {x : MkD} {t : Int} (h : markB x = true) : plusD x x ((t - 1) % 113) = scaD x t := by
  obtain ⟨_, _, h1, h2⟩ := markB_iff.1 h
  exact Prod.ext (sca_is (nums_of_B h1)) (sca_is (nums_of_B h2))
theorem shiftD_is2 {x : MkD} {t : Int} {key : List Int} (h : markB x = true) (hk : key.length = x.1.length) : plusD x (scaD (oneL x.1.length, key) t) 1 = shiftD x t key := by
  obtain ⟨h0, h1, h2, h3⟩ := markB_iff.1 h
  exact Prod.ext (shift_is (nums_of_B h2) (by omega)) (mix_of_sca (by rw [hk, h1]))
theorem shift_no {x : MkD} {t : Int} {key : List Int} {n : Nat} (h : (markB x && decide ((x.1.length : Int) = (n : Int))) = false) (hk : key.length = n) : R_MarkedShift_1 x t key = false := by
  cases e1 : markB x
  · simp [R_MarkedShift_1, e1]
  · rw [e1, Bool.true_and, decide_eq_false_iff_not] at h
    have : ¬ key.length = x.1.length := by omega
    simp [R_MarkedShift_1, this]
theorem one_ok {n : Nat} {key : List Int} (hl : key.length = n) (h : 2 ≤ n ∧ n ≤ 7) (hk : numsB key = true) : markB (oneL n, key) = true := by
  subst hl
  exact markB_one h hk

set_option maxHeartbeats 8000000 in
theorem X_s_MarkedAdd (v u : Value) (x y : MkD) (w : World) (h : RdMarked w w.heap.size v x) (k : RdMarked w w.heap.size u y) (hs : szMarked x ≤ 1048576) (hs2 : szMarked y ≤ 1048576) :
    Calls Try.prog 40 #[v, u] w fun e w' => ∃ g, e = .returned (.tuple #[g, .bool (R_MarkedAdd_1 x y)]) ∧ OwMarked w' w.heap.size w'.heap.size g (R_MarkedAdd_0 x y) ∧ Below w.heap.size w w' := by
  obtain ⟨X0, nX, cX0, X1, nX1, cX1, rfl, aX0, aX1, lX0, lX1⟩ := h.open_
  obtain ⟨Y0, nY, cY0, Y1, nY1, cY1, rfl, aY0, aY1, lY0, lY1⟩ := k.open_
  have HX := Lib.hid h
  have HY := Lib.hid k
  have HL := Lib.hid (And.intro lX0 lY0)
  have no : R_MarkedAdd_1 x y = false → Hid (R_MarkedAdd_1 x y = false ∧ R_MarkedAdd_0 x y = ([], [])) := fun h => Lib.hid ⟨h, by unfold R_MarkedAdd_0; rw [h]; rfl⟩
  clear h k aX0 aX1 aY0 aY1 lX0 lX1 lY0 lY1
  go_enter Try.func40, Try.ntmps40
  go_wp2_with fail
  obtain ⟨W0, hW0⟩ : ∃ W, Hid ((((w.alloc (.cells #[.slice X0 nX cX0, .slice X1 nX1 cX1] 67)).alloc (.cells #[.slice Y0 nY cY0, .slice Y1 nY1 cY1] 67)).alloc (.cells #[.slice none 0 0, .slice none 0 0] 67)) = W) := ⟨_, Lib.hid rfl⟩
  have hb : Below w.heap.size w W0 := by rw [← hW0.out]; exact (((Below.refl _ _).alloc (Nat.le_refl _) _).alloc (by simp) _).alloc (by simp; omega) _
  have Z0 : Hid (W0.heap.size = w.heap.size + 1 + 1 + 1) := Lib.hid (by rw [← hW0.out]; simp only [World.size_alloc])
  have hx_x : Bx W0 (w.heap.size) #[.slice X0 nX cX0, .slice X1 nX1 cX1] 67 := by rw [← hW0.out]; have := Bx.new w #[.slice X0 nX cX0, .slice X1 nX1 cX1] 67; exact ((this.alloc _).alloc _)
  have hx_y : Bx W0 (w.heap.size + 1) #[.slice Y0 nY cY0, .slice Y1 nY1 cY1] 67 := by rw [← hW0.out]; have := Bx.new (w.alloc (.cells #[.slice X0 nX cX0, .slice X1 nX1 cX1] 67)) #[.slice Y0 nY cY0, .slice Y1 nY1 cY1] 67; rw [World.size_alloc] at this; exact (this.alloc _)
  have hx_R : Bx W0 (w.heap.size + 1 + 1) #[.slice none 0 0, .slice none 0 0] 67 := by rw [← hW0.out]; have := Bx.new ((w.alloc (.cells #[.slice X0 nX cX0, .slice X1 nX1 cX1] 67)).alloc (.cells #[.slice Y0 nY cY0, .slice Y1 nY1 cY1] 67)) #[.slice none 0 0, .slice none 0 0] 67; rw [World.size_alloc, World.size_alloc] at this; exact this
  rw [hW0.out]
  clear hW0
  refine (X_s_MarkedOk _ x _ (rdm_at HX.out hb) hs).mono ?_
  rintro e w1 ⟨rfl, hb_⟩
  have z1 := hb_.size
  replace hb : Below w.heap.size w w1 := up_hb hb hb_
  replace hx_x := up_bx hx_x hb_
  replace hx_y := up_bx hx_y hb_
  replace hx_R := up_bx hx_R hb_
  clear hb_
  cases e1 : markB x
  · have HF := no (by simp [R_MarkedAdd_1, e1])
    have c_R0 : w1.cell? ⟨w.heap.size + 1 + 1, 0, none⟩ = some (.slice none 0 0) := hx_R.cell 0
    have f_R0 : w1.frozen? ⟨w.heap.size + 1 + 1, 0, none⟩ = false := hx_R.free 0
    have c_R1 : w1.cell? ⟨w.heap.size + 1 + 1, 1, none⟩ = some (.slice none 0 0) := hx_R.cell 1
    have f_R1 : w1.frozen? ⟨w.heap.size + 1 + 1, 1, none⟩ = false := hx_R.free 1
    go_wp2
    have z0 := Z0.out
    have hk := st_kept w1 (w.heap.size + 1 + 1) (.slice none 0 0) (.slice none 0 0)
    have hkz := hk.size
    exact bodyPost_ret (v := .tuple #[.agg #[.slice none 0 0, .slice none 0 0], .bool false]) (resM2 rfl rfl rfl (st_done hx_R)) rfl ⟨_, by rw [HF.out.1], by rw [HF.out.2]; exact OwMarked.nil_ _ _ _ (by have := hb.size; omega), st_below hb (by omega)⟩
  have c_y0 : w1.cell? ⟨w.heap.size + 1, 0, none⟩ = some (.slice Y0 nY cY0) := hx_y.cell 0
  have c_y1 : w1.cell? ⟨w.heap.size + 1, 1, none⟩ = some (.slice Y1 nY1 cY1) := hx_y.cell 1
  go_wp2_with fail
  clear c_y0 c_y1
  refine (X_s_MarkedOk _ y _ (rdm_at HY.out hb) hs2).mono ?_
  rintro e w2 ⟨rfl, hb_⟩
  have z2 := hb_.size
  replace hb : Below w.heap.size w w2 := up_hb hb hb_
  replace hx_x := up_bx hx_x hb_
  replace hx_y := up_bx hx_y hb_
  replace hx_R := up_bx hx_R hb_
  clear hb_
  cases e2 : markB y
  · have HF := no (by simp [R_MarkedAdd_1, e2])
    have c_R0 : w2.cell? ⟨w.heap.size + 1 + 1, 0, none⟩ = some (.slice none 0 0) := hx_R.cell 0
    have f_R0 : w2.frozen? ⟨w.heap.size + 1 + 1, 0, none⟩ = false := hx_R.free 0
    have c_R1 : w2.cell? ⟨w.heap.size + 1 + 1, 1, none⟩ = some (.slice none 0 0) := hx_R.cell 1
    have f_R1 : w2.frozen? ⟨w.heap.size + 1 + 1, 1, none⟩ = false := hx_R.free 1
    go_wp2
    have z0 := Z0.out
    have hk := st_kept w2 (w.heap.size + 1 + 1) (.slice none 0 0) (.slice none 0 0)
    have hkz := hk.size
    exact bodyPost_ret (v := .tuple #[.agg #[.slice none 0 0, .slice none 0 0], .bool false]) (resM2 rfl rfl rfl (st_done hx_R)) rfl ⟨_, by rw [HF.out.1], by rw [HF.out.2]; exact OwMarked.nil_ _ _ _ (by have := hb.size; omega), st_below hb (by omega)⟩
  by_cases hl : nX = nY
  rotate_left
  · have HF := no (by have := HL.out; simp [R_MarkedAdd_1, this.1, this.2]; intro _ _ h9; exact hl h9.symm)
    have q1 : ((nX : Int) == (nY : Int)) = false := by rw [beq_eq_false_iff_ne]; omega
    have q2 : (nX == nY) = false := by rw [beq_eq_false_iff_ne]; omega
    have c_x0 : w2.cell? ⟨w.heap.size, 0, none⟩ = some (.slice X0 nX cX0) := hx_x.cell 0
    have c_y0 : w2.cell? ⟨w.heap.size + 1, 0, none⟩ = some (.slice Y0 nY cY0) := hx_y.cell 0
    have c_R0 : w2.cell? ⟨w.heap.size + 1 + 1, 0, none⟩ = some (.slice none 0 0) := hx_R.cell 0
    have f_R0 : w2.frozen? ⟨w.heap.size + 1 + 1, 0, none⟩ = false := hx_R.free 0
    have c_R1 : w2.cell? ⟨w.heap.size + 1 + 1, 1, none⟩ = some (.slice none 0 0) := hx_R.cell 1
    have f_R1 : w2.frozen? ⟨w.heap.size + 1 + 1, 1, none⟩ = false := hx_R.free 1
    go_wp2
    have z0 := Z0.out
    have hk := st_kept w2 (w.heap.size + 1 + 1) (.slice none 0 0) (.slice none 0 0)
    have hkz := hk.size
    exact bodyPost_ret (v := .tuple #[.agg #[.slice none 0 0, .slice none 0 0], .bool false]) (resM2 rfl rfl rfl (st_done hx_R)) rfl ⟨_, by rw [HF.out.1], by rw [HF.out.2]; exact OwMarked.nil_ _ _ _ (by have := hb.size; omega), st_below hb (by omega)⟩
  subst hl
  have HF : Hid (R_MarkedAdd_1 x y = true ∧ R_MarkedAdd_0 x y = plusD x y 1) := Lib.hid (by have h1 : R_MarkedAdd_1 x y = true := (by have := HL.out; simp [R_MarkedAdd_1, e1, e2, this.1, this.2]); exact ⟨h1, by unfold R_MarkedAdd_0; rw [if_pos h1]⟩)
  have HE1 := Lib.hid e1
  have HE2 := Lib.hid e2
  clear e1 e2 no
  have c_x0 : w2.cell? ⟨w.heap.size, 0, none⟩ = some (.slice X0 nX cX0) := hx_x.cell 0
  have c_x1 : w2.cell? ⟨w.heap.size, 1, none⟩ = some (.slice X1 nX1 cX1) := hx_x.cell 1
  have c_y0 : w2.cell? ⟨w.heap.size + 1, 0, none⟩ = some (.slice Y0 nX cY0) := hx_y.cell 0
  have c_y1 : w2.cell? ⟨w.heap.size + 1, 1, none⟩ = some (.slice Y1 nY1 cY1) := hx_y.cell 1
  go_wp2_with fail
  clear c_x0 c_x1 c_y0 c_y1
  refine (s_l10Plus _ _ x y 1 _ (rdm_at HX.out hb) (rdm_at HY.out hb) HE1.out HE2.out (by have := HL.out; omega) (by omega) (by omega)).mono ?_
  rintro e w3 ⟨g, rfl, ho, hb_⟩
  have z3 := hb_.size
  replace hb : Below w.heap.size w w3 := up_hb hb hb_
  replace hx_x := up_bx hx_x hb_
  replace hx_y := up_bx hx_y hb_
  replace hx_R := up_bx hx_R hb_
  clear hb_
  obtain ⟨A3, n3, c3, A4, n4, c4, rfl⟩ := ho.open_
  have c_R0 : w3.cell? ⟨w.heap.size + 1 + 1, 0, none⟩ = some (.slice none 0 0) := hx_R.cell 0
  have f_R0 : w3.frozen? ⟨w.heap.size + 1 + 1, 0, none⟩ = false := hx_R.free 0
  have c_R1 : w3.cell? ⟨w.heap.size + 1 + 1, 1, none⟩ = some (.slice none 0 0) := hx_R.cell 1
  have f_R1 : w3.frozen? ⟨w.heap.size + 1 + 1, 1, none⟩ = false := hx_R.free 1
  go_wp2
  have z0 := Z0.out
  have hk := st_kept w3 (w.heap.size + 1 + 1) (.slice A3 n3 c3) (.slice A4 n4 c4)
  have hkz := hk.size
  exact bodyPost_ret (v := .tuple #[.agg #[.slice A3 n3 c3, .slice A4 n4 c4], .bool true]) (resM2 rfl rfl rfl (st_done hx_R)) rfl ⟨_, by rw [HF.out.1], by rw [HF.out.2]; exact (ho.kept hk (by omega) (by omega)).widen (by omega) (by omega), st_below hb (by omega)⟩

set_option maxHeartbeats 8000000 in
theorem X_i_MarkedAdd (v u : Value) (x y : MkD) (w : World) (h : RdMarked w w.heap.size v x) (k : RdMarked w w.heap.size u y) (hs : szMarked x ≤ 1048576) (hs2 : szMarked y ≤ 1048576) :
    Calls Try.prog 42 #[v, u] w fun e w' => ∃ g, e = .returned (.tuple #[g, .bool (R_MarkedAdd_1 x y)]) ∧ OwMarked w' w.heap.size w'.heap.size g (R_MarkedAdd_0 x y) ∧ Below w.heap.size w w' := by
  obtain ⟨X0, nX, cX0, X1, nX1, cX1, rfl, aX0, aX1, lX0, lX1⟩ := h.open_
  obtain ⟨Y0, nY, cY0, Y1, nY1, cY1, rfl, aY0, aY1, lY0, lY1⟩ := k.open_
  have HX := Lib.hid h
  have HY := Lib.hid k
  have HL := Lib.hid (And.intro lX0 lY0)
  have no : R_MarkedAdd_1 x y = false → Hid (R_MarkedAdd_1 x y = false ∧ R_MarkedAdd_0 x y = ([], [])) := fun h => Lib.hid ⟨h, by unfold R_MarkedAdd_0; rw [h]; rfl⟩
  clear h k aX0 aX1 aY0 aY1 lX0 lX1 lY0 lY1
  go_enter Try.func42, Try.ntmps42
  go_wp2_with fail
  obtain ⟨W0, hW0⟩ : ∃ W, Hid ((((w.alloc (.cells #[.slice X0 nX cX0, .slice X1 nX1 cX1] 67)).alloc (.cells #[.slice Y0 nY cY0, .slice Y1 nY1 cY1] 67)).alloc (.cells #[.slice none 0 0, .slice none 0 0] 67)) = W) := ⟨_, Lib.hid rfl⟩
  have hb : Below w.heap.size w W0 := by rw [← hW0.out]; exact (((Below.refl _ _).alloc (Nat.le_refl _) _).alloc (by simp) _).alloc (by simp; omega) _
  have Z0 : Hid (W0.heap.size = w.heap.size + 1 + 1 + 1) := Lib.hid (by rw [← hW0.out]; simp only [World.size_alloc])
  have hx_x : Bx W0 (w.heap.size) #[.slice X0 nX cX0, .slice X1 nX1 cX1] 67 := by rw [← hW0.out]; have := Bx.new w #[.slice X0 nX cX0, .slice X1 nX1 cX1] 67; exact ((this.alloc _).alloc _)
  have hx_y : Bx W0 (w.heap.size + 1) #[.slice Y0 nY cY0, .slice Y1 nY1 cY1] 67 := by rw [← hW0.out]; have := Bx.new (w.alloc (.cells #[.slice X0 nX cX0, .slice X1 nX1 cX1] 67)) #[.slice Y0 nY cY0, .slice Y1 nY1 cY1] 67; rw [World.size_alloc] at this; exact (this.alloc _)
  have hx_R : Bx W0 (w.heap.size + 1 + 1) #[.slice none 0 0, .slice none 0 0] 67 := by rw [← hW0.out]; have := Bx.new ((w.alloc (.cells #[.slice X0 nX cX0, .slice X1 nX1 cX1] 67)).alloc (.cells #[.slice Y0 nY cY0, .slice Y1 nY1 cY1] 67)) #[.slice none 0 0, .slice none 0 0] 67; rw [World.size_alloc, World.size_alloc] at this; exact this
  rw [hW0.out]
  clear hW0
  refine (X_i_MarkedOk _ x _ (rdm_at HX.out hb) hs).mono ?_
  rintro e w1 ⟨rfl, hb_⟩
  have z1 := hb_.size
  replace hb : Below w.heap.size w w1 := up_hb hb hb_
  replace hx_x := up_bx hx_x hb_
  replace hx_y := up_bx hx_y hb_
  replace hx_R := up_bx hx_R hb_
  clear hb_
  cases e1 : markB x
  · have HF := no (by simp [R_MarkedAdd_1, e1])
    have c_R0 : w1.cell? ⟨w.heap.size + 1 + 1, 0, none⟩ = some (.slice none 0 0) := hx_R.cell 0
    have f_R0 : w1.frozen? ⟨w.heap.size + 1 + 1, 0, none⟩ = false := hx_R.free 0
    have c_R1 : w1.cell? ⟨w.heap.size + 1 + 1, 1, none⟩ = some (.slice none 0 0) := hx_R.cell 1
    have f_R1 : w1.frozen? ⟨w.heap.size + 1 + 1, 1, none⟩ = false := hx_R.free 1
    go_wp2
    have z0 := Z0.out
    have hk := st_kept w1 (w.heap.size + 1 + 1) (.slice none 0 0) (.slice none 0 0)
    have hkz := hk.size
    exact bodyPost_ret (v := .tuple #[.agg #[.slice none 0 0, .slice none 0 0], .bool false]) (resM2 rfl rfl rfl (st_done hx_R)) rfl ⟨_, by rw [HF.out.1], by rw [HF.out.2]; exact OwMarked.nil_ _ _ _ (by have := hb.size; omega), st_below hb (by omega)⟩
  have c_x0 : w1.cell? ⟨w.heap.size, 0, none⟩ = some (.slice X0 nX cX0) := hx_x.cell 0
  have c_x1 : w1.cell? ⟨w.heap.size, 1, none⟩ = some (.slice X1 nX1 cX1) := hx_x.cell 1
  have c_y0 : w1.cell? ⟨w.heap.size + 1, 0, none⟩ = some (.slice Y0 nY cY0) := hx_y.cell 0
  have c_y1 : w1.cell? ⟨w.heap.size + 1, 1, none⟩ = some (.slice Y1 nY1 cY1) := hx_y.cell 1
  go_wp2_with fail
  clear c_x0 c_x1 c_y0 c_y1
  refine (i_fits _ y _ _ (rdm_at HY.out hb) hs2).mono ?_
  rintro e w2 ⟨rfl, hb_⟩
  have z2 := hb_.size
  replace hb : Below w.heap.size w w2 := up_hb hb hb_
  replace hx_x := up_bx hx_x hb_
  replace hx_y := up_bx hx_y hb_
  replace hx_R := up_bx hx_R hb_
  clear hb_
  by_cases e2 : (markB y && decide ((y.1.length : Int) = (nX : Int))) = true
  rotate_left
  · have HF := no (by have h9 := HL.out; rw [Bool.not_eq_true] at e2; rw [R_MarkedAdd_1, e1, Bool.true_and, ← e2]; simp only [h9.1]; congr 1; apply decide_eq_decide.2; omega)
    rw [Bool.not_eq_true] at e2
    rw [e2]
    have c_R0 : w2.cell? ⟨w.heap.size + 1 + 1, 0, none⟩ = some (.slice none 0 0) := hx_R.cell 0
    have f_R0 : w2.frozen? ⟨w.heap.size + 1 + 1, 0, none⟩ = false := hx_R.free 0
    have c_R1 : w2.cell? ⟨w.heap.size + 1 + 1, 1, none⟩ = some (.slice none 0 0) := hx_R.cell 1
    have f_R1 : w2.frozen? ⟨w.heap.size + 1 + 1, 1, none⟩ = false := hx_R.free 1
    go_wp2
    have z0 := Z0.out
    have hk := st_kept w2 (w.heap.size + 1 + 1) (.slice none 0 0) (.slice none 0 0)
    have hkz := hk.size
    exact bodyPost_ret (v := .tuple #[.agg #[.slice none 0 0, .slice none 0 0], .bool false]) (resM2 rfl rfl rfl (st_done hx_R)) rfl ⟨_, by rw [HF.out.1], by rw [HF.out.2]; exact OwMarked.nil_ _ _ _ (by have := hb.size; omega), st_below hb (by omega)⟩
  rw [e2]
  have hl : nX = nY := by have := HL.out; simp only [Bool.and_eq_true, decide_eq_true_eq] at e2; omega
  replace e2 : markB y = true := by simp only [Bool.and_eq_true] at e2; exact e2.1
  subst hl
  have HF : Hid (R_MarkedAdd_1 x y = true ∧ R_MarkedAdd_0 x y = plusD x y 1) := Lib.hid (by have h1 : R_MarkedAdd_1 x y = true := (by have := HL.out; simp [R_MarkedAdd_1, e1, e2, this.1, this.2]); exact ⟨h1, by unfold R_MarkedAdd_0; rw [if_pos h1]⟩)
  have HE1 := Lib.hid e1
  have HE2 := Lib.hid e2
  clear e1 e2 no
  have c_x0 : w2.cell? ⟨w.heap.size, 0, none⟩ = some (.slice X0 nX cX0) := hx_x.cell 0
  have c_x1 : w2.cell? ⟨w.heap.size, 1, none⟩ = some (.slice X1 nX1 cX1) := hx_x.cell 1
  have c_y0 : w2.cell? ⟨w.heap.size + 1, 0, none⟩ = some (.slice Y0 nX cY0) := hx_y.cell 0
  have c_y1 : w2.cell? ⟨w.heap.size + 1, 1, none⟩ = some (.slice Y1 nY1 cY1) := hx_y.cell 1
  go_wp2_with fail
  clear c_x0 c_x1 c_y0 c_y1
  refine (i_Mplus _ _ x y _ (rdm_at HX.out hb) (rdm_at HY.out hb) HE1.out HE2.out (by have := HL.out; omega)).mono ?_
  rintro e w3 ⟨g, rfl, ho, hb_⟩
  have z3 := hb_.size
  replace hb : Below w.heap.size w w3 := up_hb hb hb_
  replace hx_x := up_bx hx_x hb_
  replace hx_y := up_bx hx_y hb_
  replace hx_R := up_bx hx_R hb_
  clear hb_
  obtain ⟨A3, n3, c3, A4, n4, c4, rfl⟩ := ho.open_
  have c_R0 : w3.cell? ⟨w.heap.size + 1 + 1, 0, none⟩ = some (.slice none 0 0) := hx_R.cell 0
  have f_R0 : w3.frozen? ⟨w.heap.size + 1 + 1, 0, none⟩ = false := hx_R.free 0
  have c_R1 : w3.cell? ⟨w.heap.size + 1 + 1, 1, none⟩ = some (.slice none 0 0) := hx_R.cell 1
  have f_R1 : w3.frozen? ⟨w.heap.size + 1 + 1, 1, none⟩ = false := hx_R.free 1
  go_wp2
  have z0 := Z0.out
  have hk := st_kept w3 (w.heap.size + 1 + 1) (.slice A3 n3 c3) (.slice A4 n4 c4)
  have hkz := hk.size
  exact bodyPost_ret (v := .tuple #[.agg #[.slice A3 n3 c3, .slice A4 n4 c4], .bool true]) (resM2 rfl rfl rfl (st_done hx_R)) rfl ⟨_, by rw [HF.out.1], by rw [HF.out.2]; exact (ho.kept hk (by omega) (by omega)).widen (by omega) (by omega), st_below hb (by omega)⟩

set_option maxHeartbeats 8000000 in
theorem X_s_MarkedShift (v u : Value) (x : MkD) (t : Int) (key : List Int) (w : World) (h : RdMarked w w.heap.size v x) (k : RdIntS w w.heap.size u key) (hs : szMarked x ≤ 1048576) (hs2 : szIntS key ≤ 1048576) :
    Calls Try.prog 54 #[v, .int .i64 t, u] w fun e w' => ∃ g, e = .returned (.tuple #[g, .bool (R_MarkedShift_1 x t key)]) ∧ OwMarked w' w.heap.size w'.heap.size g (R_MarkedShift_0 x t key) ∧ Below w.heap.size w w' := by
  obtain ⟨X0, nX, cX0, X1, nX1, cX1, rfl, aX0, aX1, lX0, lX1⟩ := h.open_
  obtain ⟨A, n, c, rfl, _, hk⟩ := k
  have hkl := hk.len
  have hn : n ≤ 1048576 := by unfold szIntS at hs2; omega
  have HX := Lib.hid h
  have HKY := Lib.hid hk
  have HL := Lib.hid (And.intro lX0 hkl)
  have no : R_MarkedShift_1 x t key = false → Hid (R_MarkedShift_1 x t key = false ∧ R_MarkedShift_0 x t key = ([], [])) := fun h => Lib.hid ⟨h, by unfold R_MarkedShift_0; rw [h]; rfl⟩
  clear h aX0 aX1 lX0 lX1 hk hkl hs2
  go_enter Try.func54, Try.ntmps54
  go_wp2_with fail
  obtain ⟨W0, hW0⟩ : ∃ W, Hid (((w.alloc (.cells #[.slice X0 nX cX0, .slice X1 nX1 cX1] 67)).alloc (.cells #[.slice none 0 0, .slice none 0 0] 67)) = W) := ⟨_, Lib.hid rfl⟩
  have hb : Below w.heap.size w W0 := by rw [← hW0.out]; exact ((Below.refl _ _).alloc (Nat.le_refl _) _).alloc (by simp) _
  have Z0 : Hid (W0.heap.size = w.heap.size + 1 + 1) := Lib.hid (by rw [← hW0.out]; simp only [World.size_alloc])
  have hx_x : Bx W0 (w.heap.size) #[.slice X0 nX cX0, .slice X1 nX1 cX1] 67 := by rw [← hW0.out]; have := Bx.new w #[.slice X0 nX cX0, .slice X1 nX1 cX1] 67; exact (this.alloc _)
  have hx_R : Bx W0 (w.heap.size + 1) #[.slice none 0 0, .slice none 0 0] 67 := by rw [← hW0.out]; have := Bx.new (w.alloc (.cells #[.slice X0 nX cX0, .slice X1 nX1 cX1] 67)) #[.slice none 0 0, .slice none 0 0] 67; rw [World.size_alloc] at this; exact this
  rw [hW0.out]
  clear hW0
  refine (X_s_MarkedOk _ x _ (rdm_at HX.out hb) hs).mono ?_
  rintro e w1 ⟨rfl, hb_⟩
  have z1 := hb_.size
  replace hb : Below w.heap.size w w1 := up_hb hb hb_
  replace hx_x := up_bx hx_x hb_
  replace hx_R := up_bx hx_R hb_
  clear hb_
  cases e1 : markB x
  · have HF := no (by simp [R_MarkedShift_1, e1])
    have c_R0 : w1.cell? ⟨w.heap.size + 1, 0, none⟩ = some (.slice none 0 0) := hx_R.cell 0
    have f_R0 : w1.frozen? ⟨w.heap.size + 1, 0, none⟩ = false := hx_R.free 0
    have c_R1 : w1.cell? ⟨w.heap.size + 1, 1, none⟩ = some (.slice none 0 0) := hx_R.cell 1
    have f_R1 : w1.frozen? ⟨w.heap.size + 1, 1, none⟩ = false := hx_R.free 1
    go_wp2
    have z0 := Z0.out
    have hk := st_kept w1 (w.heap.size + 1) (.slice none 0 0) (.slice none 0 0)
    have hkz := hk.size
    exact bodyPost_ret (v := .tuple #[.agg #[.slice none 0 0, .slice none 0 0], .bool false]) (resM2 rfl rfl rfl (st_done hx_R)) rfl ⟨_, by rw [HF.out.1], by rw [HF.out.2]; exact OwMarked.nil_ _ _ _ (by have := hb.size; omega), st_below hb (by omega)⟩
  go_wp2_with fail
  refine (s_NumOk _ _).mono ?_
  rintro e w' ⟨rfl, rfl⟩
  have c_x0 : w1.cell? ⟨w.heap.size, 0, none⟩ = some (.slice X0 nX cX0) := hx_x.cell 0
  have c_x1 : w1.cell? ⟨w.heap.size, 1, none⟩ = some (.slice X1 nX1 cX1) := hx_x.cell 1
  cases e2 : numB t
  · have HF := no (by simp [R_MarkedShift_1, e2])
    have c_R0 : w1.cell? ⟨w.heap.size + 1, 0, none⟩ = some (.slice none 0 0) := hx_R.cell 0
    have f_R0 : w1.frozen? ⟨w.heap.size + 1, 0, none⟩ = false := hx_R.free 0
    have c_R1 : w1.cell? ⟨w.heap.size + 1, 1, none⟩ = some (.slice none 0 0) := hx_R.cell 1
    have f_R1 : w1.frozen? ⟨w.heap.size + 1, 1, none⟩ = false := hx_R.free 1
    go_wp2
    have z0 := Z0.out
    have hk := st_kept w1 (w.heap.size + 1) (.slice none 0 0) (.slice none 0 0)
    have hkz := hk.size
    exact bodyPost_ret (v := .tuple #[.agg #[.slice none 0 0, .slice none 0 0], .bool false]) (resM2 rfl rfl rfl (st_done hx_R)) rfl ⟨_, by rw [HF.out.1], by rw [HF.out.2]; exact OwMarked.nil_ _ _ _ (by have := hb.size; omega), st_below hb (by omega)⟩
  by_cases hl : nX = n
  rotate_left
  · have HF := no (by have := HL.out; simp [R_MarkedShift_1, this.1, this.2]; intro _ _ h9; exact absurd h9.symm hl)
    have q1 : ((n : Int) == (nX : Int)) = false := by rw [beq_eq_false_iff_ne]; omega
    have q2 : (n == nX) = false := by rw [beq_eq_false_iff_ne]; omega
    have c_R0 : w1.cell? ⟨w.heap.size + 1, 0, none⟩ = some (.slice none 0 0) := hx_R.cell 0
    have f_R0 : w1.frozen? ⟨w.heap.size + 1, 0, none⟩ = false := hx_R.free 0
    have c_R1 : w1.cell? ⟨w.heap.size + 1, 1, none⟩ = some (.slice none 0 0) := hx_R.cell 1
    have f_R1 : w1.frozen? ⟨w.heap.size + 1, 1, none⟩ = false := hx_R.free 1
    go_wp2
    have z0 := Z0.out
    have hk := st_kept w1 (w.heap.size + 1) (.slice none 0 0) (.slice none 0 0)
    have hkz := hk.size
    exact bodyPost_ret (v := .tuple #[.agg #[.slice none 0 0, .slice none 0 0], .bool false]) (resM2 rfl rfl rfl (st_done hx_R)) rfl ⟨_, by rw [HF.out.1], by rw [HF.out.2]; exact OwMarked.nil_ _ _ _ (by have := hb.size; omega), st_below hb (by omega)⟩
  have q1 : ((n : Int) == (nX : Int)) = true := by rw [beq_iff_eq]; omega
  have q3 : ((n : Int) != (nX : Int)) = false := by simp only [bne, q1]; rfl
  have HLN := Lib.hid hl
  clear hl
  go_wp2_with fail
  clear c_x0 c_x1
  refine (s_l1In _ _ _ _ _ (rd_at HKY.out hb) hn).mono ?_
  rintro e w' ⟨rfl, rfl⟩
  cases e3 : numsB key
  · have HF := no (by simp [R_MarkedShift_1, e3])
    have c_R0 : w1.cell? ⟨w.heap.size + 1, 0, none⟩ = some (.slice none 0 0) := hx_R.cell 0
    have f_R0 : w1.frozen? ⟨w.heap.size + 1, 0, none⟩ = false := hx_R.free 0
    have c_R1 : w1.cell? ⟨w.heap.size + 1, 1, none⟩ = some (.slice none 0 0) := hx_R.cell 1
    have f_R1 : w1.frozen? ⟨w.heap.size + 1, 1, none⟩ = false := hx_R.free 1
    go_wp2
    have z0 := Z0.out
    have hk := st_kept w1 (w.heap.size + 1) (.slice none 0 0) (.slice none 0 0)
    have hkz := hk.size
    exact bodyPost_ret (v := .tuple #[.agg #[.slice none 0 0, .slice none 0 0], .bool false]) (resM2 rfl rfl rfl (st_done hx_R)) rfl ⟨_, by rw [HF.out.1], by rw [HF.out.2]; exact OwMarked.nil_ _ _ _ (by have := hb.size; omega), st_below hb (by omega)⟩
  obtain ⟨t0, t1⟩ := (numB_iff t).1 e2
  have HKN : Hid (Nums key) := Lib.hid (nums_of_B e3)
  have HLK : Hid (n = x.1.length ∧ key.length = x.1.length) := Lib.hid (by have := HL.out; have := HLN.out; omega)
  have HF : Hid (R_MarkedShift_1 x t key = true ∧ R_MarkedShift_0 x t key = shiftD x t key) := Lib.hid (by have h1 : R_MarkedShift_1 x t key = true := (by have h9 := HLK.out; simp [R_MarkedShift_1, e1, e2, e3, h9.2]); exact ⟨h1, by unfold R_MarkedShift_0; rw [if_pos h1]⟩)
  have HE1 := Lib.hid e1
  clear e1 e2 e3 no q1 q3
  have c_x0 : w1.cell? ⟨w.heap.size, 0, none⟩ = some (.slice X0 nX cX0) := hx_x.cell 0
  have c_x1 : w1.cell? ⟨w.heap.size, 1, none⟩ = some (.slice X1 nX1 cX1) := hx_x.cell 1
  go_wp2_with fail
  clear c_x0 c_x1
  refine (s_l10Shift _ x t A n c key _ (rdm_at HX.out hb) HE1.out (rd_at HKY.out hb) HKN.out HLK.out.1 t0 t1).mono ?_
  rintro e w2 ⟨g, rfl, ho, hb_⟩
  have z2 := hb_.size
  replace hb : Below w.heap.size w w2 := up_hb hb hb_
  replace hx_x := up_bx hx_x hb_
  replace hx_R := up_bx hx_R hb_
  clear hb_
  obtain ⟨A3, n3, c3, A4, n4, c4, rfl⟩ := ho.open_
  have c_R0 : w2.cell? ⟨w.heap.size + 1, 0, none⟩ = some (.slice none 0 0) := hx_R.cell 0
  have f_R0 : w2.frozen? ⟨w.heap.size + 1, 0, none⟩ = false := hx_R.free 0
  have c_R1 : w2.cell? ⟨w.heap.size + 1, 1, none⟩ = some (.slice none 0 0) := hx_R.cell 1
  have f_R1 : w2.frozen? ⟨w.heap.size + 1, 1, none⟩ = false := hx_R.free 1
  go_wp2
  have z0 := Z0.out
  have hk := st_kept w2 (w.heap.size + 1) (.slice A3 n3 c3) (.slice A4 n4 c4)
  have hkz := hk.size
  exact bodyPost_ret (v := .tuple #[.agg #[.slice A3 n3 c3, .slice A4 n4 c4], .bool true]) (resM2 rfl rfl rfl (st_done hx_R)) rfl ⟨_, by rw [HF.out.1], by rw [HF.out.2]; exact (ho.kept hk (by omega) (by omega)).widen (by omega) (by omega), st_below hb (by omega)⟩

set_option maxHeartbeats 8000000 in
theorem X_i_MarkedShift (v u : Value) (x : MkD) (t : Int) (key : List Int) (w : World) (h : RdMarked w w.heap.size v x) (k : RdIntS w w.heap.size u key) (hs : szMarked x ≤ 1048576) (hs2 : szIntS key ≤ 1048576) :
    Calls Try.prog 53 #[v, .int .i64 t, u] w fun e w' => ∃ g, e = .returned (.tuple #[g, .bool (R_MarkedShift_1 x t key)]) ∧ OwMarked w' w.heap.size w'.heap.size g (R_MarkedShift_0 x t key) ∧ Below w.heap.size w w' := by
  obtain ⟨X0, nX, cX0, X1, nX1, cX1, rfl, aX0, aX1, lX0, lX1⟩ := h.open_
  obtain ⟨A, n, c, rfl, _, hk⟩ := k
  have hkl := hk.len
  have hn : n ≤ 1048576 := by unfold szIntS at hs2; omega
  have HX := Lib.hid h
  have HKY := Lib.hid hk
  have HL := Lib.hid (And.intro lX0 hkl)
  have no : R_MarkedShift_1 x t key = false → Hid (R_MarkedShift_1 x t key = false ∧ R_MarkedShift_0 x t key = ([], [])) := fun h => Lib.hid ⟨h, by unfold R_MarkedShift_0; rw [h]; rfl⟩
  clear h aX0 aX1 lX0 lX1 hk hkl hs2
  go_enter Try.func53, Try.ntmps53
  go_wp2_with fail
  obtain ⟨W0, hW0⟩ : ∃ W, Hid (((w.alloc (.cells #[.slice X0 nX cX0, .slice X1 nX1 cX1] 67)).alloc (.cells #[.slice none 0 0, .slice none 0 0] 67)) = W) := ⟨_, Lib.hid rfl⟩
  have hb : Below w.heap.size w W0 := by rw [← hW0.out]; exact ((Below.refl _ _).alloc (Nat.le_refl _) _).alloc (by simp) _
  have Z0 : Hid (W0.heap.size = w.heap.size + 1 + 1) := Lib.hid (by rw [← hW0.out]; simp only [World.size_alloc])
  have hx_x : Bx W0 (w.heap.size) #[.slice X0 nX cX0, .slice X1 nX1 cX1] 67 := by rw [← hW0.out]; have := Bx.new w #[.slice X0 nX cX0, .slice X1 nX1 cX1] 67; exact (this.alloc _)
  have hx_R : Bx W0 (w.heap.size + 1) #[.slice none 0 0, .slice none 0 0] 67 := by rw [← hW0.out]; have := Bx.new (w.alloc (.cells #[.slice X0 nX cX0, .slice X1 nX1 cX1] 67)) #[.slice none 0 0, .slice none 0 0] 67; rw [World.size_alloc] at this; exact this
  rw [hW0.out]
  clear hW0
  refine (i_fits _ x _ _ (rdm_at HX.out hb) hs).mono ?_
  rintro e w1 ⟨rfl, hb_⟩
  have z1 := hb_.size
  replace hb : Below w.heap.size w w1 := up_hb hb hb_
  replace hx_x := up_bx hx_x hb_
  replace hx_R := up_bx hx_R hb_
  clear hb_
  by_cases e0 : (markB x && decide ((x.1.length : Int) = (n : Int))) = true
  rotate_left
  · rw [Bool.not_eq_true] at e0
    have HF := no (shift_no e0 HL.out.2)
    rw [e0]
    have c_R0 : w1.cell? ⟨w.heap.size + 1, 0, none⟩ = some (.slice none 0 0) := hx_R.cell 0
    have f_R0 : w1.frozen? ⟨w.heap.size + 1, 0, none⟩ = false := hx_R.free 0
    have c_R1 : w1.cell? ⟨w.heap.size + 1, 1, none⟩ = some (.slice none 0 0) := hx_R.cell 1
    have f_R1 : w1.frozen? ⟨w.heap.size + 1, 1, none⟩ = false := hx_R.free 1
    go_wp2
    have z0 := Z0.out
    have hk := st_kept w1 (w.heap.size + 1) (.slice none 0 0) (.slice none 0 0)
    have hkz := hk.size
    exact bodyPost_ret (v := .tuple #[.agg #[.slice none 0 0, .slice none 0 0], .bool false]) (resM2 rfl rfl rfl (st_done hx_R)) rfl ⟨_, by rw [HF.out.1], by rw [HF.out.2]; exact OwMarked.nil_ _ _ _ (by have := hb.size; omega), st_below hb (by omega)⟩
  rw [e0]
  have e1 : markB x = true := by simp only [Bool.and_eq_true] at e0; exact e0.1
  have hl : nX = n := by have := HL.out; simp only [Bool.and_eq_true, decide_eq_true_eq] at e0; omega
  have HLN := Lib.hid hl
  clear e0
  go_wp2_with fail
  refine (i_NumOk _ _).mono ?_
  rintro e w' ⟨rfl, rfl⟩
  cases e2 : numB t
  · have HF := no (by simp [R_MarkedShift_1, e2])
    have c_R0 : w1.cell? ⟨w.heap.size + 1, 0, none⟩ = some (.slice none 0 0) := hx_R.cell 0
    have f_R0 : w1.frozen? ⟨w.heap.size + 1, 0, none⟩ = false := hx_R.free 0
    have c_R1 : w1.cell? ⟨w.heap.size + 1, 1, none⟩ = some (.slice none 0 0) := hx_R.cell 1
    have f_R1 : w1.frozen? ⟨w.heap.size + 1, 1, none⟩ = false := hx_R.free 1
    go_wp2
    have z0 := Z0.out
    have hk := st_kept w1 (w.heap.size + 1) (.slice none 0 0) (.slice none 0 0)
    have hkz := hk.size
    exact bodyPost_ret (v := .tuple #[.agg #[.slice none 0 0, .slice none 0 0], .bool false]) (resM2 rfl rfl rfl (st_done hx_R)) rfl ⟨_, by rw [HF.out.1], by rw [HF.out.2]; exact OwMarked.nil_ _ _ _ (by have := hb.size; omega), st_below hb (by omega)⟩
  go_wp2_with fail
  refine (i_numbersOk _ _ _ _ _ (rd_at HKY.out hb) hn).mono ?_
  rintro e w' ⟨rfl, rfl⟩
  cases e3 : numsB key
  · have HF := no (by simp [R_MarkedShift_1, e3])
    have c_R0 : w1.cell? ⟨w.heap.size + 1, 0, none⟩ = some (.slice none 0 0) := hx_R.cell 0
    have f_R0 : w1.frozen? ⟨w.heap.size + 1, 0, none⟩ = false := hx_R.free 0
    have c_R1 : w1.cell? ⟨w.heap.size + 1, 1, none⟩ = some (.slice none 0 0) := hx_R.cell 1
    have f_R1 : w1.frozen? ⟨w.heap.size + 1, 1, none⟩ = false := hx_R.free 1
    go_wp2
    have z0 := Z0.out
    have hk := st_kept w1 (w.heap.size + 1) (.slice none 0 0) (.slice none 0 0)
    have hkz := hk.size
    exact bodyPost_ret (v := .tuple #[.agg #[.slice none 0 0, .slice none 0 0], .bool false]) (resM2 rfl rfl rfl (st_done hx_R)) rfl ⟨_, by rw [HF.out.1], by rw [HF.out.2]; exact OwMarked.nil_ _ _ _ (by have := hb.size; omega), st_below hb (by omega)⟩
  obtain ⟨t0, t1⟩ := (numB_iff t).1 e2
  have HKN : Hid (Nums key) := Lib.hid (nums_of_B e3)
  have HLK : Hid (n = x.1.length ∧ key.length = x.1.length) := Lib.hid (by have := HL.out; have := HLN.out; omega)
  have HF : Hid (R_MarkedShift_1 x t key = true ∧ R_MarkedShift_0 x t key = shiftD x t key) := Lib.hid (by have h1 : R_MarkedShift_1 x t key = true := (by have h9 := HLK.out; simp [R_MarkedShift_1, e1, e2, e3, h9.2]); exact ⟨h1, by unfold R_MarkedShift_0; rw [if_pos h1]⟩)
  have HE1 := Lib.hid e1
  have HSD := Lib.hid (shiftD_is2 (t := t) e1 HLK.out.2)
  have HSZ : Hid (2 ≤ n ∧ n ≤ 7) := Lib.hid (by have := (markB_iff.1 e1).1; have := HLK.out; omega)
  have HEK := Lib.hid e3
  clear e1 e2 e3 no hl
  have HB := Lib.hid hb
  have HX_x := Lib.hid hx_x
  have HX_R := Lib.hid hx_R
  clear hb hx_x hx_R
  go_wp2
  have hb := HB.out
  have hx_x := HX_x.out
  have hx_R := HX_R.out
  have hc_x_0 : w1.cell? ⟨w.heap.size, 0, none⟩ = some (.slice X0 nX cX0) := HX_x.out.cell 0
  have hc_x_1 : w1.cell? ⟨w.heap.size, 1, none⟩ = some (.slice X1 nX1 cX1) := HX_x.out.cell 1
  have stq0 : True := trivial
  go_region_held3 (fun w' => Below w.heap.size w w' ∧ (w').cell? ⟨w.heap.size, 0, none⟩ = some (.slice X0 nX cX0) ∧ (w').cell? ⟨w.heap.size, 1, none⟩ = some (.slice X1 nX1 cX1))
    (first | exact ⟨hb, hc_x_0, hc_x_1⟩ | exact ⟨hb.drew, hc_x_0, hc_x_1⟩ | exact hst _ _)
    (first
      | (have stq1 := stq0
         clear stq0
         have z0 := Z0.out
         have zdrew : w1.drew.heap.size = w1.heap.size := rfl
         go_at_call 107
         refine (i_one A n c _ HSZ.out.2 HSZ.out.1).mono ?_
         rintro e v1 ⟨A5, c5, rfl, ho1, hb_⟩
         have z1 := hb_.size
         have hbk : Below w1.heap.size w1 v1 := (by first | exact hb_ | exact nb1 hb_)
         replace hb : Below w.heap.size w v1 := up_hb hb hbk
         replace hx_x : Bx v1 (w.heap.size) #[.slice X0 nX cX0, .slice X1 nX1 cX1] 67 := up_bx hx_x hbk
         replace hx_R : Bx v1 (w.heap.size + 1) #[.slice none 0 0, .slice none 0 0] 67 := up_bx hx_R hbk
         replace hc_x_0 : v1.cell? ⟨w.heap.size, 0, none⟩ = some (.slice X0 nX cX0) := hx_x.cell 0
         replace hc_x_1 : v1.cell? ⟨w.heap.size, 1, none⟩ = some (.slice X1 nX1 cX1) := hx_x.cell 1
         clear hbk
         have hro : RdMarked v1 v1.heap.size (.agg #[.slice A5 n c5, .slice A n c]) (oneL n, key) := ⟨A5, n, c5, A, n, c, rfl, ho1.rd.more (Nat.le_refl _), A, n, c, rfl, by omega, rd_at HKY.out hb⟩
         clear hb_
         clear zdrew z0)
      | (have stq2 := stq1
         clear stq1
         have z0 := Z0.out
         have zdrew : w1.drew.heap.size = w1.heap.size := rfl
         go_at_call 106
         refine (i_Mtimes _ (oneL n, key) t _ hro (one_ok HL.out.2 HSZ.out HEK.out) t0 t1).mono ?_
         rintro e v2 ⟨g2, rfl, ho2, hb_⟩
         have z2 := hb_.size
         have hbk : Below v1.heap.size v1 v2 := (by first | exact hb_ | exact nb1 hb_)
         replace hb : Below w.heap.size w v2 := up_hb hb hbk
         replace hx_x : Bx v2 (w.heap.size) #[.slice X0 nX cX0, .slice X1 nX1 cX1] 67 := up_bx hx_x hbk
         replace hx_R : Bx v2 (w.heap.size + 1) #[.slice none 0 0, .slice none 0 0] 67 := up_bx hx_R hbk
         replace hc_x_0 : v2.cell? ⟨w.heap.size, 0, none⟩ = some (.slice X0 nX cX0) := hx_x.cell 0
         replace hc_x_1 : v2.cell? ⟨w.heap.size, 1, none⟩ = some (.slice X1 nX1 cX1) := hx_x.cell 1
         replace ho1 := ho1.below hbk (by omega)
         clear hbk
         clear hb_
         clear zdrew z0)
      | (have stq3 := stq2
         clear stq2
         have z0 := Z0.out
         have zdrew : w1.drew.heap.size = w1.heap.size := rfl
         go_at_call 97
         refine (i_Mplus _ _ x (scaD (oneL n, key) t) _ (rdm_at HX.out (by first | exact hb | exact hb.drew)) (by first | exact own_at ho2 (by omega)) HE1.out (markB_sca (one_ok HL.out.2 HSZ.out HEK.out)) (by have := HLK.out; simp only [scaD, scaL_length, oneL_length]; omega)).mono ?_
         rintro e v3 ⟨g, rfl, ho, hb_⟩
         have z3 := hb_.size
         have hbk : Below v2.heap.size v2 v3 := (by first | exact hb_ | exact nb1 hb_)
         replace hb : Below w.heap.size w v3 := up_hb hb hbk
         replace hx_x : Bx v3 (w.heap.size) #[.slice X0 nX cX0, .slice X1 nX1 cX1] 67 := up_bx hx_x hbk
         replace hx_R : Bx v3 (w.heap.size + 1) #[.slice none 0 0, .slice none 0 0] 67 := up_bx hx_R hbk
         replace hc_x_0 : v3.cell? ⟨w.heap.size, 0, none⟩ = some (.slice X0 nX cX0) := hx_x.cell 0
         replace hc_x_1 : v3.cell? ⟨w.heap.size, 1, none⟩ = some (.slice X1 nX1 cX1) := hx_x.cell 1
         replace ho1 := ho1.below hbk (by omega)
         replace ho2 := ho2.below hbk (by omega)
         clear hbk
         obtain ⟨A3, n3, c3, A4, n4, c4, rfl⟩ := ho.open_
         clear hb_
         have hr0 : v3.cell? ⟨w.heap.size + 1, 0, none⟩ = some (.slice none 0 0) := hx_R.cell 0
         have hf0 : v3.frozen? ⟨w.heap.size + 1, 0, none⟩ = false := hx_R.free 0
         have hr1 : v3.cell? ⟨w.heap.size + 1, 1, none⟩ = some (.slice none 0 0) := hx_R.cell 1
         have hf1 : v3.frozen? ⟨w.heap.size + 1, 1, none⟩ = false := hx_R.free 1
         have hst : ∀ a b, Below w.heap.size w ((v3.setCell ⟨w.heap.size + 1, 0, none⟩ a).setCell ⟨w.heap.size + 1, 1, none⟩ b) ∧ ((v3.setCell ⟨w.heap.size + 1, 0, none⟩ a).setCell ⟨w.heap.size + 1, 1, none⟩ b).cell? ⟨w.heap.size, 0, none⟩ = some (.slice X0 nX cX0) ∧ ((v3.setCell ⟨w.heap.size + 1, 0, none⟩ a).setCell ⟨w.heap.size + 1, 1, none⟩ b).cell? ⟨w.heap.size, 1, none⟩ = some (.slice X1 nX1 cX1) := fun a b => ⟨st_below hb (by omega), st_cell (st_kept v3 (w.heap.size + 1) _ _) hx_x (by omega) 0, st_cell (st_kept v3 (w.heap.size + 1) _ _) hx_x (by omega) 1⟩
         clear zdrew z0))
  have HSF : Hid (R_MarkedShift_1 x t key = true ∧ R_MarkedShift_0 x t key = plusD x (scaD (oneL n, key) t) 1) := Lib.hid ⟨HF.out.1, by rw [HF.out.2, HLK.out.1]; exact HSD.out.symm⟩
  have HB2 := Lib.hid hb
  have HRR := Lib.hid hx_R
  clear hb hst HB HX_x HX_R hro
  go_wp2
  have hb := HB2.out
  have hx_R := HRR.out
  have zdrew : w1.drew.heap.size = w1.heap.size := rfl
  have z0 := Z0.out
  have hk := st_kept v3 (w.heap.size + 1) (.slice A3 n3 c3) (.slice A4 n4 c4)
  have hkz := hk.size
  exact bodyPost_ret (v := .tuple #[.agg #[.slice A3 n3 c3, .slice A4 n4 c4], .bool true]) (resM2 rfl rfl rfl (st_done hx_R)) rfl ⟨_, by rw [HSF.out.1], by rw [HSF.out.2]; exact (ho.kept hk (by omega) (by omega)).widen (by omega) (by omega), st_below hb (by omega)⟩
end Go.Proofs.Ytipdflbnnmghdaa

/- Lists of lists of points: what reads, what is owned; the laws' helpers over them. Made by tools/genss.py. -/
namespace Go.Proofs.Ytipdflbnnmghdaa
open Go.RowKit
set_option maxRecDepth 100000

/-- the sum of the lengths of the first k rows -/
def lensKP (d : List (List (Int × Int))) : Nat → Nat
  | 0 => 0
  | k + 1 => lensKP d k + (d.getD k []).length
theorem lensKP_mono (d : List (List (Int × Int))) {i j : Nat} (h : i ≤ j) : lensKP d i ≤ lensKP d j := by
  induction j with
  | zero => rw [show i = 0 by omega]; exact Nat.le_refl _
  | succ j ih =>
    by_cases hc : i = j + 1
    · rw [hc]; exact Nat.le_refl _
    · have := ih (by omega); rw [lensKP]; omega
theorem lensKP_row (d : List (List (Int × Int))) {k n : Nat} (h : k < n) : (d.getD k []).length ≤ lensKP d n := by
  have := lensKP_mono d (show k + 1 ≤ n by omega); rw [lensKP] at this; omega

/-- (A, n) reads as the rows d, below block hi -/
def RdRP (w : World) (hi : Nat) (A : Option Addr) (n : Nat) (vs : List Value) (d : List (List (Int × Int))) : Prop :=
  Rd w hi 1 A n vs ∧ d.length = n ∧ ∀ i, i < n → RdPointS w hi (vs.getD i undef) (d.getD i [])
section
variable {w w' : World} {lo hi lo' hi' n c k g : Nat} {A : Option Addr} {vs : List Value} {d : List (List (Int × Int))}
theorem RdRP.row (h : RdRP w hi A n vs d) (hk : k < n) : ∃ (a : Addr) (Ai : Option Addr) (ni ci : Nat), A = some a ∧ a.block < hi ∧ w.cell? (a.add k) = some (.slice Ai ni ci) ∧ RdPointS w hi (.slice Ai ni ci) (d.getD k []) ∧ ni ≤ 9223372036854775807 ∧ (d.getD k []).length = ni := by
  obtain ⟨h1, h2, h3⟩ := h
  obtain ⟨a, e, hb, hc⟩ := h1.2 (by omega)
  have hl := h1.1
  have hr := h3 k hk
  obtain ⟨Ai, ni, ci, e2, hn, r⟩ := h3 k hk
  refine ⟨a, Ai, ni, ci, e, hb, ?_, ?_, hn, r.plen⟩
  · rw [← e2]; exact hc k _ (getD_get (by omega))
  · rw [← e2]; exact hr
theorem RdRP.keep (h : RdRP w hi A n vs d) (hb : Below hi w w') : RdRP w' hi A n vs d := ⟨h.1.below hb, h.2.1, fun i hi' => (h.2.2 i hi').below hb⟩
theorem RdRP.more (h : RdRP w hi A n vs d) (hh : hi ≤ hi') : RdRP w hi' A n vs d := ⟨h.1.more hh, h.2.1, fun i hi' => (h.2.2 i hi').more hh⟩
end

/-- the first k rows copied, the others still nil -/
def copyRP (d : List (List (Int × Int))) (n k : Nat) : List (List (Int × Int)) := d.take k ++ List.replicate (n - k) []
theorem copyRP_get (d : List (List (Int × Int))) (n k i : Nat) (h : d.length = n) (hk : k ≤ n) : (copyRP d n k).getD i [] = if i < k then d.getD i [] else [] := by
  unfold copyRP
  simp only [List.getD_eq_getElem?_getD, List.getElem?_append, List.length_take, List.getElem?_take, List.getElem?_replicate]
  by_cases h1 : i < k
  · rw [if_pos (by omega), if_pos h1, if_pos h1]
  · rw [if_neg (by omega), if_neg h1]
    by_cases h2 : i - min k d.length < n - k
    · rw [if_pos h2]; rfl
    · rw [if_neg h2]; rfl
theorem copyRP_all (d : List (List (Int × Int))) (n : Nat) (h : d.length = n) : copyRP d n n = d := by
  unfold copyRP; rw [List.take_of_length_le (by omega), Nat.sub_self]; simp

/-- rows marked one behind the other -/
def mkRowP (K : Int) (d : List (List (Int × Int))) (i : Nat) : List (Int × Int) := iotaP (K + 2 * lensKP d i) (d.getD i []).length
def mkPointSS (K : Int) (d : List (List (Int × Int))) : List (List (Int × Int)) := (List.range d.length).map (mkRowP K d)
def markRP (K : Int) (d : List (List (Int × Int))) (k : Nat) : List (List (Int × Int)) := (List.range d.length).map fun i => if i < k then mkRowP K d i else d.getD i []
theorem markRP_get (K : Int) (d : List (List (Int × Int))) (k i : Nat) (h : i < d.length) : (markRP K d k).getD i [] = if i < k then mkRowP K d i else d.getD i [] := by simp [markRP, h]
theorem mkPointSS_get (K : Int) (d : List (List (Int × Int))) (i : Nat) (h : i < d.length) : (mkPointSS K d).getD i [] = mkRowP K d i := by simp [mkPointSS, h]
theorem mkRowP_len (K : Int) (d : List (List (Int × Int))) (i : Nat) : (mkRowP K d i).length = (d.getD i []).length := by rw [mkRowP, iotaP_length]
theorem markRP_length (K : Int) (d : List (List (Int × Int))) (k : Nat) : (markRP K d k).length = d.length := by simp [markRP]
theorem mkPointSS_length (K : Int) (d : List (List (Int × Int))) : (mkPointSS K d).length = d.length := by simp [mkPointSS]
theorem ext_rowsP {p q : List (List (Int × Int))} (hl : p.length = q.length) (h : ∀ j, j < p.length → p.getD j [] = q.getD j []) : p = q := by
  apply List.ext_getElem hl
  intro j h1 h2
  have := h j h1
  simpa [h1, h2] using this
theorem markRP_0 (K : Int) (d : List (List (Int × Int))) : markRP K d 0 = d := ext_rowsP (markRP_length _ _ _) fun j hj => by rw [markRP_length] at hj; rw [markRP_get _ _ _ _ hj, if_neg (by omega)]
theorem markRP_n (K : Int) (d : List (List (Int × Int))) : markRP K d d.length = mkPointSS K d := ext_rowsP (by rw [markRP_length, mkPointSS_length]) fun j hj => by rw [markRP_length] at hj; rw [markRP_get _ _ _ _ hj, if_pos hj, mkPointSS_get _ _ _ hj]
theorem markRP_succ (K : Int) (d : List (List (Int × Int))) (k : Nat) (_hk : k < d.length) : (markRP K d k).set k (mkRowP K d k) = markRP K d (k + 1) := by
  refine ext_rowsP (by simp [markRP_length]) fun j hj => ?_
  rw [List.length_set, markRP_length] at hj
  rw [markRP_get _ _ _ _ hj]
  simp only [List.getD_eq_getElem?_getD, List.getElem?_set, markRP_length]
  by_cases hc : k = j
  · subst hc; rw [if_pos rfl, if_pos hj, if_pos (by omega)]; rfl
  · rw [if_neg hc, ← List.getD_eq_getElem?_getD, markRP_get _ _ _ _ hj]
    by_cases h2 : j < k
    · rw [if_pos h2, if_pos (by omega)]
    · rw [if_neg h2, if_neg (by omega)]; rfl

/-- the size: the rows and all that they hold -/
def szPointSS (d : List (List (Int × Int))) : Nat := d.length + lensKP d d.length

/-! as whole values -/
def RdPointSS (w : World) (hi : Nat) (v : Value) (d : List (List (Int × Int))) : Prop := ∃ A n c vs, v = .slice A n c ∧ n ≤ 9223372036854775807 ∧ RdRP w hi A n vs d
section
variable {w w' : World} {lo hi lo' hi' B mid : Nat} {v : Value} {d : List (List (Int × Int))}
theorem RdPointSS.below (h : RdPointSS w hi v d) (hb : Below hi w w') : RdPointSS w' hi v d := by
  obtain ⟨A, n, c, vs, rfl, hn, r⟩ := h; exact ⟨A, n, c, vs, rfl, hn, r.keep hb⟩
theorem RdPointSS.more (h : RdPointSS w hi v d) (hh : hi ≤ hi') : RdPointSS w hi' v d := by
  obtain ⟨A, n, c, vs, rfl, hn, r⟩ := h; exact ⟨A, n, c, vs, rfl, hn, r.more hh⟩
end
theorem mkP_lens (K : Int) (d : List (List (Int × Int))) (k : Nat) (h : k ≤ d.length) : lensKP (mkPointSS K d) k = lensKP d k := by
  induction k with
  | zero => rfl
  | succ k ih => rw [lensKP, lensKP, ih (by omega), mkPointSS_get _ _ _ (by omega), mkRowP_len]
theorem mkP_sz (K : Int) (d : List (List (Int × Int))) : szPointSS (mkPointSS K d) = szPointSS d := by unfold szPointSS; rw [mkPointSS_length, mkP_lens _ _ _ (Nat.le_refl _)]
end Go.Proofs.Ytipdflbnnmghdaa

/- A struct of one-cell fields among a law's parameters. -/
namespace Go.Proofs.Ytipdflbnnmghdaa
open Go.ChangeShapes Go.WideShapes Go.ChangeAt Go.RowKit
theorem field_int {H : Type} {enc : TypeId × Value → H} {P : Program} {w : World} {base n : Nat} {sp : Nat → Bool} {held : Bool} {t : TypeId} {u : Value} {y : DataW H × List MemPlace} (ht : P.underlying t = some (.int .i64)) (h : DataW.trod enc P w base sp held n t [u] = some y) :
    ∃ z, u = .int .i64 z ∧ (Lit.int .i64 z).wf = true := by
  cases n with
  | zero => simp [DataW.trod] at h
  | succ n =>
    cases u <;> simp [DataW.trod, ht] at h
    obtain ⟨⟨rfl, hw⟩, _⟩ := h
    exact ⟨_, rfl, hw⟩
theorem field_bool {H : Type} {enc : TypeId × Value → H} {P : Program} {w : World} {base n : Nat} {sp : Nat → Bool} {held : Bool} {t : TypeId} {u : Value} {y : DataW H × List MemPlace} (ht : P.underlying t = some .bool) (h : DataW.trod enc P w base sp held n t [u] = some y) :
    ∃ z, u = .bool z := by
  cases n with
  | zero => simp [DataW.trod] at h
  | succ n =>
    cases u <;> simp [DataW.trod, ht] at h
    exact ⟨_, rfl⟩
end Go.Proofs.Ytipdflbnnmghdaa

/- Arguments that are structs with lists, opened. -/
namespace Go.Proofs.Ytipdflbnnmghdaa
open Go.ChangeShapes Go.WideShapes Go.ChangeAt Go.RowKit
set_option maxRecDepth 100000

section
variable {H : Type} {enc : TypeId × Value → H} {P : Program} {w : World}
theorem row_lt {a : Addr} {K : Nat} {u : Value} (h : w.cell? (a.add K) = some u) : a.block < w.heap.size := by
  have := World.block_lt_of_cell? (a := a.add K) _ h
  rw [add_block] at this; exact this

/-- a list of structs of K ints -/
theorem open_flat (K : Nat) (hK : 0 < K) {t e : TypeId} {fs : Array Field} {fuel : Nat} {cs : List Value} {x : DataW H × List MemPlace} (ht : P.underlying t = some (.slice e)) (he : P.underlying e = some (.struct fs)) (ce : P.cellsOf e = K)
    (hf : ∀ j, j < K → ∃ f, fs[j]? = some f ∧ f.offset = j ∧ P.cellsOf f.type = 1 ∧ P.underlying f.type = some (.int .i64)) (h : DataW.trod enc P w 0 (fun _ => true) true fuel t cs = some x) :
    ∃ A n c, cs = [.slice A n c] ∧ n ≤ 9223372036854775807 ∧ (0 < n → ∃ a, A = some a ∧ a.block < w.heap.size) ∧ ∃ Z : Nat → Nat → Int, ∀ a, A = some a → ∀ i, i < n → ∀ j, j < K → w.cell? (a.add (i * K + j)) = some (.int .i64 (Z i j)) := by
  rcases Go.Deep.open_slice ht h with ⟨rfl, _⟩ | ⟨a, len, cap, m, n, D, Pl, rfl, _, hl, hm, hmm, _, hx⟩
  · exact ⟨_, _, _, rfl, by omega, fun h => by omega, fun _ _ => 0, fun a ha => by cases ha⟩
  · simp only [if_true] at hmm
    unfold maxLen at hm
    have each : ∀ i, i < len → ∃ z : Nat → Int, ∀ j, j < K → w.cell? (a.add (i * K + j)) = some (.int .i64 (z j)) := by
      intro i hi
      obtain ⟨cs', h1, h2⟩ := hx i (by omega)
      rw [ce] at h1
      obtain ⟨_, hlen, hcell⟩ := World.cells?_some h1
      obtain ⟨xs, k, hk, _, _, hxl, hf2⟩ := DataW.trod_struct he h2
      refine ⟨fun j => intOf (cs'.getD j undef), fun j hj => ?_⟩
      obtain ⟨f, f1, f2, f3, f4⟩ := hf j hj
      have g := hf2 j f f1
      have hjx : j < xs.length := by
        rw [hxl]
        exact (Array.getElem?_eq_some_iff.1 f1).1
      rw [f2, f3, List.getElem?_eq_getElem hjx] at g
      have hjl : j < cs'.length := by omega
      have e0 : cs'[j]? = some (cs'.getD j undef) := by rw [List.getD_eq_getElem?_getD, List.getElem?_eq_getElem hjl]; rfl
      have e1 : (cs'.drop j).take 1 = [cs'.getD j undef] := by
        rw [List.drop_eq_getElem_cons hjl, List.take_succ_cons, List.take_zero, List.getD_eq_getElem?_getD, List.getElem?_eq_getElem hjl]; rfl
      rw [e1] at g
      obtain ⟨z, e2, _⟩ := DataW.trod_int f4 g
      have e3 : cs'.getD j undef = .int .i64 z := by injection e2
      have e4 := hcell j hj
      rw [Go.Deep.add_add] at e4
      rw [e4, e0]
      show some (cs'.getD j undef) = some (.int .i64 (intOf (cs'.getD j undef)))
      rw [e3]; rfl
    obtain ⟨Z, hZ⟩ := Go.Deep.choose_lt each
    refine ⟨some a, len, cap, rfl, by omega, fun h0 => ⟨a, rfl, row_lt (hZ 0 h0 0 hK)⟩, Z, fun b hb i hi j hj => ?_⟩
    injection hb with hb; subst hb
    exact hZ i hi j hj

theorem field_GateS {t e : TypeId} {f0 f1 f2 : Field} {n : Nat} {u : Value} {y : DataW H × List MemPlace} (ht : P.underlying t = some (.slice e)) (he : P.underlying e = some (.struct #[f0, f1, f2])) (ce : P.cellsOf e = 3)
    (o0 : f0.offset = 0) (o1 : f1.offset = 1) (o2 : f2.offset = 2) (c0 : P.cellsOf f0.type = 1) (c1 : P.cellsOf f1.type = 1) (c2 : P.cellsOf f2.type = 1) (t0 : P.underlying f0.type = some (.int .i64)) (t1 : P.underlying f1.type = some (.int .i64)) (t2 : P.underlying f2.type = some (.int .i64))
    (h : DataW.trod enc P w 0 (fun _ => true) true n t [u] = some y) : ∃ A n c d, u = .slice A n c ∧ RdGateS w w.heap.size (.slice A n c) d := by
  obtain ⟨A, n, c, hu, hn, hb, Z, hZ⟩ := open_flat 3 (by omega) ht he ce (fun j hj => by
    match j, hj with
    | 0, _ => exact ⟨f0, rfl, o0, c0, t0⟩
    | 1, _ => exact ⟨f1, rfl, o1, c1, t1⟩
    | 2, _ => exact ⟨f2, rfl, o2, c2, t2⟩) h
  refine ⟨A, n, c, (List.range n).map fun i => (Z i 0, Z i 1, Z i 2), by simpa using hu, A, n, c, rfl, hn, by rw [cGate_length]; simp, fun h0 => ?_⟩
  obtain ⟨a, rfl, hab⟩ := hb h0
  refine ⟨a, rfl, hab, fun j v hv => ?_⟩
  have hj : j < n * 3 := by
    have := (List.getElem?_eq_some_iff.1 hv).1
    rw [cGate_length] at this; simpa using this
  have h2 : j = (j / 3) * 3 + 0 ∨ j = (j / 3) * 3 + 1 ∨ j = (j / 3) * 3 + 2 := by omega
  have hk : j / 3 < n := by omega
  generalize j / 3 = k at h2 hk
  rcases h2 with rfl | rfl | rfl
  · rw [hZ a rfl k hk 0 (by omega), ← hv, Nat.add_zero, cGate_get0 _ _ (by simpa using hk)]; simp [hk]
  · rw [hZ a rfl k hk 1 (by omega), ← hv, cGate_get1 _ _ (by simpa using hk)]; simp [hk]
  · rw [hZ a rfl k hk 2 (by omega), ← hv, cGate_get2 _ _ (by simpa using hk)]; simp [hk]

theorem field_IntS {t e : TypeId} {n : Nat} {u : Value} {y : DataW H × List MemPlace} (ht : P.underlying t = some (.slice e)) (he : P.underlying e = some (.int .i64)) (hc : P.cellsOf e = 1)
    (h : DataW.trod enc P w 0 (fun _ => true) true n t [u] = some y) : ∃ A n c d, u = .slice A n c ∧ RdIntS w w.heap.size (.slice A n c) d := by
  rcases open_ints ht he hc h with ⟨hn, _⟩ | ⟨a, len, cap, zs, hs, _, hlc, hm, hlen, _, hcell, _⟩
  · have : u = .slice none 0 0 := by simpa using hn
    exact ⟨_, _, _, [], this, _, _, _, rfl, by omega, by simp [cI], fun h => by omega⟩
  · have : u = .slice (some a) len cap := by simpa using hs
    simp only [if_true] at hlen
    unfold maxLen at hm
    refine ⟨_, _, _, zs.take len, this, _, _, _, rfl, by omega, by rw [cI_length, List.length_take]; omega, fun hn => ⟨a, rfl, row_lt (hcell 0 (by omega)), fun j v hv => ?_⟩⟩
    have hj : j < len := by
      have := (List.getElem?_eq_some_iff.1 hv).1
      rw [cI_length, List.length_take] at this; omega
    rw [hcell j (by omega), ← hv, cI_get _ _ (by rw [List.length_take]; omega)]
    simp [hj]

theorem field_PointS {t e : TypeId} {f0 f1 : Field} {n : Nat} {u : Value} {y : DataW H × List MemPlace} (ht : P.underlying t = some (.slice e)) (he : P.underlying e = some (.struct #[f0, f1])) (ce : P.cellsOf e = 2)
    (o0 : f0.offset = 0) (o1 : f1.offset = 1) (c0 : P.cellsOf f0.type = 1) (c1 : P.cellsOf f1.type = 1) (t0 : P.underlying f0.type = some (.int .i64)) (t1 : P.underlying f1.type = some (.int .i64))
    (h : DataW.trod enc P w 0 (fun _ => true) true n t [u] = some y) : ∃ A n c d, u = .slice A n c ∧ RdPointS w w.heap.size (.slice A n c) d := by
  obtain ⟨A, n, c, hu, hn, hb, Z, hZ⟩ := open_flat 2 (by omega) ht he ce (fun j hj => by
    match j, hj with
    | 0, _ => exact ⟨f0, rfl, o0, c0, t0⟩
    | 1, _ => exact ⟨f1, rfl, o1, c1, t1⟩) h
  refine ⟨A, n, c, (List.range n).map fun i => (Z i 0, Z i 1), by simpa using hu, A, n, c, rfl, hn, by rw [cP_length]; simp, fun h0 => ?_⟩
  obtain ⟨a, rfl, hab⟩ := hb h0
  refine ⟨a, rfl, hab, fun j v hv => ?_⟩
  have hj : j < n * 2 := by
    have := (List.getElem?_eq_some_iff.1 hv).1
    rw [cP_length] at this; simpa using this
  have h2 : j = (j / 2) * 2 + 0 ∨ j = (j / 2) * 2 + 1 := by omega
  have hk : j / 2 < n := by omega
  generalize j / 2 = k at h2 hk
  rcases h2 with rfl | rfl
  · rw [hZ a rfl k hk 0 (by omega), ← hv, Nat.add_zero, cP_get1 _ _ (by simpa using hk)]; simp [hk]
  · rw [hZ a rfl k hk 1 (by omega), ← hv, cP_get2 _ _ (by simpa using hk)]; simp [hk]

theorem field_PointSS {t t' e : TypeId} {f0 f1 : Field} {n : Nat} {u : Value} {y : DataW H × List MemPlace} (ht : P.underlying t = some (.slice t')) (ct : P.cellsOf t' = 1) (ht' : P.underlying t' = some (.slice e)) (he : P.underlying e = some (.struct #[f0, f1])) (ce : P.cellsOf e = 2)
    (o0 : f0.offset = 0) (o1 : f1.offset = 1) (c0 : P.cellsOf f0.type = 1) (c1 : P.cellsOf f1.type = 1) (t0 : P.underlying f0.type = some (.int .i64)) (t1 : P.underlying f1.type = some (.int .i64))
    (h : DataW.trod enc P w 0 (fun _ => true) true n t [u] = some y) : ∃ A n c d, u = .slice A n c ∧ RdPointSS w w.heap.size (.slice A n c) d := by
  rcases Go.Deep.open_slice ht h with ⟨hu, _⟩ | ⟨a, len, cap, m, n, D, Pl, hu, _, hl, hm, hmm, _, hx⟩
  · have : u = .slice none 0 0 := by simpa using hu
    exact ⟨_, _, _, [], this, _, _, _, [], rfl, by omega, ⟨rfl, fun h => by omega⟩, rfl, fun i hi => by omega⟩
  · have hu2 : u = .slice (some a) len cap := by simpa using hu
    simp only [if_true] at hmm
    unfold maxLen at hm
    have each : ∀ i, i < len → ∃ q : Value × List (Int × Int), w.cell? (a.add i) = some q.1 ∧ RdPointS w w.heap.size q.1 q.2 := by
      intro i hi
      obtain ⟨cs', h1, h2⟩ := hx i (by omega)
      rw [ct] at h1
      obtain ⟨_, hlen, hcell⟩ := World.cells?_some h1
      match cs', hlen with
      | [v], _ =>
        obtain ⟨A, n, c, d, rfl, r⟩ := field_PointS ht' he ce o0 o1 c0 c1 t0 t1 h2
        refine ⟨(_, d), ?_, r⟩
        have := hcell 0 (by omega)
        rw [Nat.mul_one, Go.Deep.add_add, Nat.add_zero] at this
        simpa using this
    obtain ⟨q, hq⟩ := Go.Deep.choose_lt each
    refine ⟨_, _, _, (List.range len).map fun i => (q i).2, hu2, _, _, _, (List.range len).map fun i => (q i).1, rfl, by omega, ⟨by simp, fun h0 => ⟨a, rfl, row_lt (hq 0 h0).1, fun j v hv => ?_⟩⟩, by simp, fun i hi => ?_⟩
    · have hj : j < len := by
        have := (List.getElem?_eq_some_iff.1 hv).1
        simpa using this
      simp [hj] at hv
      rw [← hv]; exact (hq j hj).1
    · simp only [List.getD_eq_getElem?_getD, List.getElem?_map, List.getElem?_range hi, Option.map_some, Option.getD_some]
      exact (hq i hi).2
end
end Go.Proofs.Ytipdflbnnmghdaa

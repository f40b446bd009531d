/- Chapter 15: keys, a known secret, sums of challenges, proofs that are good: both sides. -/
import Derived.Test.YtdhakbpimbadgaaWalk14c
import Derived.Test.YtdhakbpimbadgaaMath22
import Derived.Test.YtdhakbpimbadgaaIdx
import Derived.Test.YtdhakbpimbadgaaFProof
namespace Go.Proofs.Ytdhakbpimbadgaa
open Go.RowKit
set_option maxRecDepth 100000

set_option maxHeartbeats 400000 in
theorem s_l15Keys (A : Option Addr) (n c : Nat) (zs : List Int) (w : World) (h : Rd w w.heap.size 1 A n (cI zs)) (hn : n ≤ 1048576) :
    Calls Try.prog 72 #[.slice A n c] w fun e w' => e = .returned (.bool (keysB zs)) ∧ w = w' := by
  have hlen : Hid (zs.length = n) := Lib.hid h.len
  have H := Lib.hid h
  clear h
  go_enter Try.func72, Try.ntmps72
  go_wp2
  go_loop [3] (fun i => ∃ k : Nat, k ≤ n ∧ i = .int .i64 k ∧ Hid (elsB (zs.take k) = true)) (fun i => n - (intOf i).toNat)
  case atStart => exact ⟨0, Nat.zero_le _, rfl, Lib.hid rfl⟩
  case round =>
    obtain ⟨k, hk, rfl, HK⟩ := hrel
    by_cases hlt : k < n
    · obtain ⟨a, z, rfl, hab, hc, HZ⟩ := H.out.intAt hlt
      cases hb : elB z
      · have HF : Hid (false = keysB zs) := Lib.hid (by unfold keysB; rw [elsB_bad zs k (by have := hlen.out; omega) (by rw [← HZ.out, hb]), Bool.and_false])
        go_wp2_with fail
        refine (s_ElementOk _ _).mono ?_
        rintro e w' ⟨rfl, rfl⟩
        rw [hb]
        go_wp2
        go_ret
        exact ⟨ret_bool HF.out, rfl⟩
      · have HK2 : Hid (elsB (zs.take (k + 1)) = true) := Lib.hid (by rw [elsB_take zs k (by have := hlen.out; omega), HK.out, ← HZ.out, hb]; rfl)
        clear HK
        go_wp2_with fail
        refine (s_ElementOk _ _).mono ?_
        rintro e w' ⟨rfl, rfl⟩
        rw [hb]
        go_wp2
        go_round
        case rel => exact ⟨k + 1, by omega, by go_num, HK2⟩
        case measure => simp [intOf] <;> omega
    · have HF : Hid (inB (n : Int) 1 6 = keysB zs) := Lib.hid (by unfold keysB; rw [show elsB zs = true by rw [← elsB_all, hlen.out, show n = k by omega]; exact HK.out, Bool.and_true, hlen.out])
      clear HK
      go_wp2_with fail
      refine (s_l6In _ _ _ _).mono ?_
      rintro e w' ⟨rfl, rfl⟩
      go_wp2
      go_ret
      exact ⟨ret_bool HF.out, rfl⟩

set_option maxHeartbeats 1000000 in
theorem i_keysOk (A : Option Addr) (n c : Nat) (zs : List Int) (w : World) (h : Rd w w.heap.size 1 A n (cI zs)) (hn : n ≤ 1048576) :
    Calls Try.prog 41 #[.slice A n c] w fun e w' => e = .returned (.bool (keysB zs)) ∧ w = w' := by
  have hlen : Hid (zs.length = n) := Lib.hid h.len
  have H := Lib.hid h
  clear h
  by_cases h1 : 1 ≤ n
  · by_cases h2 : n ≤ 6
    · have HF : Hid (elsB zs = keysB zs) := Lib.hid (by unfold keysB; rw [hlen.out, inB_t (by omega), Bool.true_and])
      have j1 : (1 : Int) ≤ (n : Int) := by omega
      have j2 : (n : Int) ≤ 6 := by omega
      go_enter Try.func41, Try.ntmps41
      go_wp2_with fail
      refine (i_elementsOk _ _ _ _ _ H.out hn).mono ?_
      rintro e w' ⟨rfl, rfl⟩
      go_wp2
      go_ret
      exact ⟨ret_bool HF.out, rfl⟩
    · have HF : Hid (false = keysB zs) := Lib.hid (by unfold keysB; rw [hlen.out, inB_f (by omega), Bool.false_and])
      have j1 : (1 : Int) ≤ (n : Int) := by omega
      have j2 : ¬ (n : Int) ≤ 6 := by omega
      have j3 : (6 : Int) < (n : Int) := by omega
      go_enter Try.func41, Try.ntmps41
      go_wp2
      go_ret
      exact ⟨ret_bool HF.out, rfl⟩
  · have HF : Hid (false = keysB zs) := Lib.hid (by unfold keysB; rw [hlen.out, inB_f (by omega), Bool.false_and])
    have j0 : n = 0 := by omega
    have j1 : ¬ (1 : Int) ≤ (n : Int) := by omega
    have j3 : (n : Int) < 1 := by omega
    clear j0
    go_enter Try.func41, Try.ntmps41
    go_wp2
    go_ret
    exact ⟨ret_bool HF.out, rfl⟩

theorem ownB_no1 {ks : List Int} {i s : Int} (h : inB i 0 ((ks.length : Int) - 1) = false) : ownB ks i s = false := by unfold ownB; rw [h]; rfl
theorem ownB_no2 {ks : List Int} {i s : Int} (h : numB s = false) : ownB ks i s = false := by unfold ownB; rw [h]; simp
set_option maxHeartbeats 2000000 in
theorem s_l15Knows (A : Option Addr) (n c : Nat) (zs : List Int) (i s : Int) (w : World) (h : Rd w w.heap.size 1 A n (cI zs)) (hn : n ≤ 1048576) :
    Calls Try.prog 35 #[.slice A n c, .int .i64 i, .int .i64 s] w fun e w' => e = .returned (.bool (keysB zs && ownB zs i s)) ∧ Still w w' := by
  have hlen : Hid (zs.length = n) := Lib.hid h.len
  have H := Lib.hid h
  clear h
  have HK : ∀ a, Hid (Calls Try.prog 72 #[.slice A n c] (w.drewN a) fun e w' => e = .returned (.bool (keysB zs)) ∧ w.drewN a = w') := fun a => Lib.hid (s_l15Keys A n c zs _ (H.out.drewN a) hn)
  cases h1 : keysB zs
  · rw [h1] at HK
    have HF : Hid (false = (keysB zs && ownB zs i s)) := Lib.hid (by rw [h1]; rfl)
    rw [h1] at HF
    go_enter Try.func35, Try.ntmps35
    go_wp2
    go_quiet ((go_at_call 72; with_reducible exact quiet_drewN (HK _).out))
    go_wp2
    go_ret
    exact ⟨ret_bool HF.out, _, rfl⟩
  rw [h1] at HK
  have im : IntKind.i64.wrap ((n : Int) - 1) = (n : Int) - 1 := IntWalk.i64_in _ (by omega)
  have HI : ∀ a, Hid (Calls Try.prog 81 #[.int .i64 i, .int .i64 0, .int .i64 ((n : Int) - 1)] (w.drewN a) fun e w' => e = .returned (.bool (inB i 0 ((n : Int) - 1))) ∧ w.drewN a = w') := fun a => Lib.hid (s_l6In _ _ _ _)
  have HN : ∀ a, Hid (Calls Try.prog 36 #[.int .i64 s] (w.drewN a) fun e w' => e = .returned (.bool (numB s)) ∧ w.drewN a = w') := fun a => Lib.hid (s_NumOk _ _)
  cases h2 : inB i 0 ((n : Int) - 1)
  · rw [h2] at HI
    have HF : Hid (false = (true && ownB zs i s)) := Lib.hid (by rw [ownB_no1 (by rw [hlen.out]; exact h2)]; rfl)
    go_enter Try.func35, Try.ntmps35
    go_wp2
    go_quiet ((first | (go_at_call 72; with_reducible exact quiet_drewN (HK _).out) | (go_at_call 81; with_reducible exact quiet_drewN (HI _).out)))
    go_wp2
    go_ret
    exact ⟨ret_bool HF.out, _, rfl⟩
  rw [h2] at HI
  cases h3 : numB s
  · rw [h3] at HN
    have HF : Hid (false = (true && ownB zs i s)) := Lib.hid (by rw [ownB_no2 h3]; rfl)
    go_enter Try.func35, Try.ntmps35
    go_wp2
    go_quiet ((first | (go_at_call 72; with_reducible exact quiet_drewN (HK _).out) | (go_at_call 81; with_reducible exact quiet_drewN (HI _).out) | (go_at_call 36; with_reducible exact quiet_drewN (HN _).out)))
    go_wp2
    go_ret
    exact ⟨ret_bool HF.out, _, rfl⟩
  rw [h3] at HN
  have hi := inB_iff.1 h2
  obtain ⟨k, rfl⟩ := Int.eq_ofNat_of_zero_le hi.1
  have hkn : k < n := by omega
  obtain ⟨a, z, rfl, hab, hc, HZ⟩ := H.out.intAt hkn
  obtain ⟨s0, s1⟩ := (numB_iff s).1 h3
  have i1 : (k : Int) < (n : Int) := by omega
  have i0 : (0 : Int) ≤ (k : Int) := by omega
  obtain ⟨u, hu⟩ : ∃ u, Hid (powI 4 s 227 = u) := ⟨_, Lib.hid rfl⟩
  have HP : ∀ a, Hid (Calls Try.prog 54 #[.int .i64 4, .int .i64 s] (w.drewN a) fun e w' => e = .returned (.int .i64 u) ∧ w.drewN a = w') := fun a => Lib.hid (by rw [← hu.out]; exact s_l1Pow 4 s _ (by omega) (by omega) (by omega) (by omega))
  have HF : Hid ((u == z) = (true && ownB zs k s)) := Lib.hid (by
    unfold ownB; rw [hlen.out, h2, h3, hu.out, Int.toNat_natCast, ← HZ.out, Bool.eq_iff_iff]; simp)
  clear hi h2 h3
  go_enter Try.func35, Try.ntmps35
  go_wp2
  go_quiet ((first | (go_at_call 72; with_reducible exact quiet_drewN (HK _).out) | (go_at_call 81; with_reducible exact quiet_drewN (HI _).out) | (go_at_call 36; with_reducible exact quiet_drewN (HN _).out) | (go_at_call 54; with_reducible exact quiet_drewN (HP _).out)))
  go_wp2
  go_ret
  exact ⟨ret_bool HF.out, _, rfl⟩

set_option maxHeartbeats 2000000 in
theorem i_known_ok (A : Option Addr) (n c : Nat) (zs : List Int) (i s : Int) (w : World) (h : Rd w w.heap.size 1 A n (cI zs)) (_hn : n ≤ 1048576) :
    Calls Try.prog 42 #[.agg #[.int .i64 i, .int .i64 s], .slice A n c] w fun e w' => e = .returned (.bool (ownB zs i s)) ∧ Below w.heap.size w w' := by
  have hlen : Hid (zs.length = n) := Lib.hid h.len
  obtain ⟨W0, hW0⟩ : ∃ W, Hid (w.alloc (.cells #[.int .i64 i, .int .i64 s] 60) = W) := ⟨_, Lib.hid rfl⟩
  have HB : Hid (Below w.heap.size w W0) := Lib.hid (by rw [← hW0.out]; exact (Below.refl _ _).alloc (Nat.le_refl _) _)
  have HX : Hid (Bx W0 w.heap.size #[.int .i64 i, .int .i64 s] 60) := Lib.hid (by rw [← hW0.out]; exact Bx.new _ _ _)
  have H : Hid (Rd W0 w.heap.size 1 A n (cI zs)) := Lib.hid (h.below HB.out)
  clear h
  have HI : ∀ a, Hid (Calls Try.prog 85 #[.int .i64 i, .int .i64 (n : Int)] (W0.drewN a) fun e w' => e = .returned (.bool (inB i 0 ((n : Int) - 1))) ∧ W0.drewN a = w') := fun a => Lib.hid (i_indexOk _ _ _)
  have HN : ∀ a, Hid (Calls Try.prog 86 #[.int .i64 s] (W0.drewN a) fun e w' => e = .returned (.bool (numB s)) ∧ W0.drewN a = w') := fun a => Lib.hid (i_number_ok _ _)
  cases h2 : inB i 0 ((n : Int) - 1)
  · rw [h2] at HI
    have HF : Hid (false = ownB zs i s) := Lib.hid (ownB_no1 (by rw [hlen.out]; exact h2)).symm
    go_enter Try.func42, Try.ntmps42
    go_wp2
    rw [hW0.out]
    have f0 : W0.cell? ⟨w.heap.size, 0, none⟩ = some (.int .i64 i) := HX.out.cell 0
    have f1 : W0.cell? ⟨w.heap.size, 1, none⟩ = some (.int .i64 s) := HX.out.cell 1
    go_quiet ((go_at_call 85; with_reducible exact quiet_drewN (HI _).out))
    go_wp2
    go_ret
    exact ⟨ret_bool HF.out, below_drewN HB.out _⟩
  rw [h2] at HI
  cases h3 : numB s
  · rw [h3] at HN
    have HF : Hid (false = ownB zs i s) := Lib.hid (ownB_no2 h3).symm
    go_enter Try.func42, Try.ntmps42
    go_wp2
    rw [hW0.out]
    have f0 : W0.cell? ⟨w.heap.size, 0, none⟩ = some (.int .i64 i) := HX.out.cell 0
    have f1 : W0.cell? ⟨w.heap.size, 1, none⟩ = some (.int .i64 s) := HX.out.cell 1
    go_quiet ((first | (go_at_call 85; with_reducible exact quiet_drewN (HI _).out) | (go_at_call 86; with_reducible exact quiet_drewN (HN _).out)))
    go_wp2
    go_ret
    exact ⟨ret_bool HF.out, below_drewN HB.out _⟩
  rw [h3] at HN
  have hi := inB_iff.1 h2
  obtain ⟨k, rfl⟩ := Int.eq_ofNat_of_zero_le hi.1
  have hkn : k < n := by omega
  obtain ⟨a, z, rfl, hab, hc, HZ⟩ := H.out.intAt hkn
  obtain ⟨s0, s1⟩ := (numB_iff s).1 h3
  have i1 : (k : Int) < (n : Int) := by omega
  have i0 : (0 : Int) ≤ (k : Int) := by omega
  obtain ⟨u, hu⟩ : ∃ u, Hid (powI 4 s 227 = u) := ⟨_, Lib.hid rfl⟩
  have HP : ∀ a, Hid (Calls Try.prog 87 #[.int .i64 4, .int .i64 s] (W0.drewN a) fun e w' => e = .returned (.int .i64 u) ∧ W0.drewN a = w') := fun a => Lib.hid (by rw [← hu.out]; exact i_el_power 4 s _ (by omega) (by omega) s0 s1)
  have HF : Hid ((u == z) = ownB zs k s) := Lib.hid (by
    unfold ownB; rw [hlen.out, h2, h3, hu.out, Int.toNat_natCast, ← HZ.out, Bool.eq_iff_iff]; simp)
  clear hi h2 h3
  go_enter Try.func42, Try.ntmps42
  go_wp2
  rw [hW0.out]
  have f0 : W0.cell? ⟨w.heap.size, 0, none⟩ = some (.int .i64 k) := HX.out.cell 0
  have f1 : W0.cell? ⟨w.heap.size, 1, none⟩ = some (.int .i64 s) := HX.out.cell 1
  go_quiet ((first | (go_at_call 85; with_reducible exact quiet_drewN (HI _).out) | (go_at_call 86; with_reducible exact quiet_drewN (HN _).out) | (go_at_call 87; with_reducible exact quiet_drewN (HP _).out)))
  go_wp2
  go_ret
  exact ⟨ret_bool HF.out, below_drewN HB.out _⟩

set_option maxHeartbeats 1000000 in
theorem s_l15Chal (A : Option Addr) (n c hi : Nat) (l : List Pf) (w : World) (h : Rd w hi 3 A n (cProof l)) (hn : n ≤ 1048576) (hb : ∀ k, k < n → 0 ≤ (l.getD k (0, 0, 0)).2.1 ∧ (l.getD k (0, 0, 0)).2.1 ≤ 112) :
    Calls Try.prog 74 #[.slice A n c] w fun e w' => e = .returned (.int .i64 (chalK l n)) ∧ w = w' := by
  have H := Lib.hid h
  have HN := Lib.hid hb
  clear h hb
  go_enter Try.func74, Try.ntmps74
  go_wp2
  go_loop [3, 4] (fun s i => ∃ (k : Nat) (S : Int), k ≤ n ∧ s = .int .i64 S ∧ i = .int .i64 k ∧ 0 ≤ S ∧ S ≤ 112 ∧ Hid (S = chalK l k)) (fun _ i => n - (intOf i).toNat)
  case atStart => exact ⟨0, 0, Nat.zero_le _, rfl, rfl, by omega, by omega, Lib.hid rfl⟩
  case round =>
    obtain ⟨k, S, hk, rfl, rfl, s0, s1, HS⟩ := hrel
    by_cases hlt : k < n
    · obtain ⟨a, x, y, z, rfl, hab, hcx, hcy, hcz, HP⟩ := H.out.ProofAt hlt
      have hyb := HN.out k hlt
      rw [HP.out] at hyb
      have y0 : 0 ≤ y := hyb.1
      have y1 : y ≤ 112 := hyb.2
      clear hyb
      have HS2 : Hid ((S + y) % 113 = chalK l (k + 1)) := Lib.hid (by unfold chalK; rw [HP.out, ← HS.out])
      have i0 : (0 : Int) ≤ (k : Int) := by omega
      have i1 : (k : Int) < (n : Int) := by omega
      clear HS HP hcx hcz
      go_wp2
      go_round
      case rel => exact ⟨k + 1, _, by omega, rfl, by go_num, by omega, by omega, HS2⟩
      case measure => simp [intOf] <;> omega
    · have HS2 : Hid (S = chalK l n) := Lib.hid (by rw [HS.out, show k = n by omega])
      clear HS
      go_wp2
      go_ret
      exact ⟨ret_int HS2.out, rfl⟩
theorem inv_pf (n : Nat) (a b c : Value) (W : World) : (method (n + 1) 54 (.agg #[a, b, c]) "loop.example/underveil/impl.answer").run Try.prog W = .ok (135, .agg #[a, b, c]) W := by kernel_rfl
end Go.Proofs.Ytdhakbpimbadgaa

/- Chapter 4: SharesAdd as the program has it. -/
import Derived.Test.YtbmjepmlalfpgaaWalk5j
import Derived.Test.YtbmjepmlalfpgaaWalk5l
namespace Go.Proofs.Ytbmjepmlalfpgaa
open Go.RowKit Go.Shelf
set_option maxHeartbeats 1000000 in
theorem i_sameX (A A' : Option Addr) (n n' c c' : Nat) (ps qs : List (Int × Int)) (w : World) (h : Rd w w.heap.size 2 A n (cP ps)) (h' : Rd w w.heap.size 2 A' n' (cP qs)) (hn : n ≤ 1048576) (hn' : n' ≤ 1048576) (sx : Bool) (HS : Hid (sx = (decide (n = n') && sameK ps qs n))) :
    Calls Try.prog 71 #[.slice A n c, .slice A' n' c'] w fun e w' => e = .returned (.bool sx) ∧ Below w.heap.size w w' := by
  have H := Lib.hid h
  have H' := Lib.hid h'
  clear h h'
  by_cases hne : n = n'
  · subst hne
    have HD : Hid (sx = sameK ps qs n) := Lib.hid (by rw [HS.out]; simp)
    clear HS
    go_enter Try.func71, Try.ntmps71
    go_wp2
    go_loopw [13] (fun i wr => ∃ k m : Nat, k ≤ n ∧ i = .int .i64 k ∧ Hid (sameK ps qs k = true) ∧ wr = w.drewN m) (fun i _ => n - (intOf i).toNat)
    case atStart => exact ⟨0, 0, Nat.zero_le _, rfl, Lib.hid rfl, rfl⟩
    case round =>
      obtain ⟨k, m, hk, rfl, HK, rfl⟩ := hrel
      by_cases hlt : k < n
      · obtain ⟨a, x, y, rfl, hab, hx, hy, HP⟩ := H.out.ptAt hlt
        obtain ⟨a', x', y', rfl, hab', hx', hy', HP'⟩ := H'.out.ptAt hlt
        have HXY := Lib.hid (pxy HP.out)
        have HXY' := Lib.hid (pxy HP'.out)
        have i0 : (0 : Int) ≤ (k : Int) := by omega
        have i1 : (k : Int) < (n : Int) := by omega
        by_cases hxx : x = x'
        · have hb : (x != x') = false := by simp [hxx]
          have hbb : (x == x') = true := by simp [hxx]
          have HK2 : Hid (sameK ps qs (k + 1) = true) := Lib.hid (by rw [sameK, HK.out, HXY.out.1, HXY'.out.1, hxx]; simp)
          clear hxx
          go_wp2
          go_quiet (fail)
          go_wp2
          go_roundw
          case rel => exact ⟨k + 1, _, by omega, by go_num, HK2, rfl⟩
          case measure => simp [intOf] <;> omega
        · have hb : (x != x') = true := by simp [hxx]
          have hbb : (x == x') = false := by simp [hxx]
          have HF : Hid (false = sx) := Lib.hid (by
            rw [HD.out, sameK_bad (k := k) (by rw [sameK, HXY.out.1, HXY'.out.1, beq_eq_false_iff_ne.2 hxx]; simp) hlt])
          clear hxx
          go_wp2
          go_quiet (fail)
          go_wp2
          go_ret
          exact ⟨ret_bool HF.out, below_drewN (below_drewN (Below.refl _ _) _) _⟩
      · have HF : Hid (true = sx) := Lib.hid (by rw [HD.out, ← HK.out, show k = n by omega])
        go_wp2
        go_ret
        exact ⟨ret_bool HF.out, below_drewN (Below.refl _ _) _⟩
  · have hnn : ((n : Int) == (n' : Int)) = false := by rw [beq_eq_false_iff_ne]; omega
    have HF : Hid (false = sx) := Lib.hid (by rw [HS.out, decide_eq_false hne]; rfl)
    go_enter Try.func71, Try.ntmps71
    go_wp2
    go_ret
    exact ⟨ret_bool HF.out, Below.refl _ _⟩

end Go.Proofs.Ytbmjepmlalfpgaa
